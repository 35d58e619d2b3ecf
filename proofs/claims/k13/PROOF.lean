import PyProof.Rows.All
import Wide.All
import OpenK.AllK
import Wide.FinOn
import Lean
import PyProof.EqAt
import PyProof.EqKinds
import PyProof.TupleCall
import KE.KIntText
import KE.KDictList
import KE.KDictOf
import PyProof.AttrMissHeap
import PyProof.DictUpdate
import PyProof.ToksMono
import PyProof.NeKinds
import PyProof.EnumFor
import PyProof.EnumStmt
import PyProof.EnumMake
import KE.KRevIter
import PyProof.StrOps2
import PyProof.ZipIter
import PyProof.SumWalkG
import KE.KMinKey
import KE.KTryMore
import KE.KSortAsk
import KE.KSortTup
import KE.KDictLaws
import KE.KItemsList
import KE.RegKTryMore
import KE.KIsNot
import PyProof.WalkInts
import PyProof.SeqI3
import PySem.Challenge.RW_poolrules_k13_rules_refused
set_option Elab.async false
set_option linter.all false
set_option maxRecDepth 100000
open PySem.W renaming Frag->aae,mg_none_of->abv,excIn->abG,emptyDict->abI,kitOne->abM,plainGet->abS,findIn->abV,hasDictIn->abX,instObj->abZ,keepIn->ab2,exmOne->ab4,plainOver->ab5,fnOf->aca,typeIn->acg,makesIn->acm,methodCall_KW->acn,isClsIn->acq,hideAll->acI,callWith_K->acJ,plainGet_of->ada,lookIn->adC,codeIn->adD,notCls->adE,methodObj->adG,specialIn->adO,cellsFrom_some->adY,takerIn->ad7,OpenLaw->aeb,hideAll_get->aeo,callWith_K0->aeq,of_hideAll->aeC,mg_of->aeK,isFn->aeR,nsIn->aeW,handedIn->aeX
open PySem.Str renaming ofString->aaf,empty->acf,join->ac0
open List renaming length_append->aag,mem_append_right->aah,take_succ_eq_append_getElem->aak,mem_singleton->aal,mem_cons_of_mem->aam,getElem_mem->aap,mem_append->aaq,length_cons->aar,mem_append_left->aas,map_append->aat,getElem?_eq_some_iff->aau,mem_cons_self->aav,mem_map->aay,length_take->aaA,getElem_map->aaG,size_toArray->aaH,mem_cons->aaN,append_assoc->aaT,append_nil->aaZ,take_length->aa1,eq_nil_of_length_eq_zero->aa2,all_eq_true->aa4,map_cons->aa5,getElem?_map->aa6,length_drop->aba,length_nil->abb,all_append->abc,mem_filter->abf,length_singleton->abk,all_cons->abl,take_of_length_le->abm,mem_of_mem_take->abn,filter_append->abp,flatMap_append->abq,find?_cons->abx,map_map->abz,any_eq_true->abA,mem_of_getElem?->abB,range->abC,nil_append->abD,drop_eq_getElem_cons->abE,lookup_cons->abF,map_nil->abJ,length_filter_le->abK,replicate->abL,mem_of_mem_drop->abT,any_cons->abU,flatMap_cons->abY,filter_cons->ab1,any_append->ab8,filterMap_cons->ace,getElem?_set_self->ach,drop_of_length_le->acj,length->aco,map_id->acr,nodup_append->acu,mem_range->acv,take_zero->acx,cons_append->acy,lookup->acA,dropWhile_cons->acB,zipWith->acE,sum_cons->acR,range_succ->acT,foldl_append->acW,drop_zero->acY,drop_drop->acZ,singleton_append->ac2,take_append_drop->ac3,getElem?_set_ne->ac5,nodup_cons->adb,length_set->ade,takeWhile_cons->adi,map_congr_left->adk,getElem?_append_right->adn,mem_filterMap->adw,sum_nil->adA,getElem?_eq_none_iff->adB,getElem?_cons_succ->adQ,mem_nil_iff->adV,mem_flatMap->adW,drop_eq_nil_of_le->ad4,of_mem_zip->ad9,filter_nil->aee,dropLast_concat->aek,mem_iff_getElem->ael,replicate_succ->aeA,mem_map_of_mem->aeB,map_take->aeH,all_map->aeT
open PySem renaming Value->aai,sizeLine->aaj,Shared->aan,wpAny_bind->aaw,sizeLine_eq->aax,Addr->aaB,boot_len->aaF,Program->aaS,mainGlobals->aaU,wpAny_pure->aaX,wpAny->aa8,FuncData->aa9,World->abg,Around->abi,mem_of_lookup->abw,Within->aeQ
open PySem.Paired renaming length->aao,snoc->ae2
open Nat renaming le_refl->aaz,lt_of_lt_of_le->aaY,ne_of_lt->abd,le_trans->abj,zero_le->abt,mul_le_mul_right->abO,lt_irrefl->acd,min_eq_left->acP,add_mul->adT,le_of_lt->ad5,sub_zero->aeV
open PySem.F renaming plainAttrs_str->aaC,plainAttrs_list->aaD,slot_list_append->aaI,type_list_append->aaL,slot_str_join->aaO,type_str_join->aaP,slot_list_extend->abW,slot_list_getattribute->acb,slot_str_split->aci,args_tuple_add_2->acC,args_str_split_2->acD,type_list_extend->acF,entry_tuple_add->acK,entry_str_split->acO,slot_tuple_add->acU,slot_dict_get->ac1,excBase_ValueError->ads,slot_tuple_index->adK,slot_str_isupper->adM,type_str_isupper->adN,args_list_extend_2->adP,args_dict_get_3->adR,entry_list_extend->ad0,entry_dict_get->ad1
open PySem.Heap renaming get?_push_of_some->aaE,lt_size->aaV,get?_push_size->abe,get?_update_other->adZ,SameBut->ad6,size_push->aem,FlyingW->aeU
open Bool renaming false_ne_true->aaJ,and_eq_true->aaW,eq_iff_iff->ab0,false_eq_true->acL,or_eq_true->acS,not_eq_true->adX,beq_eq_decide_eq->aec,false_or->aeG
open Or renaming inl->aaM,inr->ady
open PySem.PassesOwn renaming never->aa0
open Sum renaming inr->aa3,inl->aeL
open Option.some renaming inj->aa7
open PySem.Value renaming ref->abh,str->abN,builtin->acQ,bool->adF,none->aeM,int->ae0
open PyProof.Rows renaming slot_tuple_getitem->abo,boot_isinstance->abu,callWith_type1->ac9
open Int renaming toNat_natCast->abr,zero_add->acG,mul_le_mul_of_nonneg_left->ac4,emod_nonneg->adj,toNat_of_nonneg->adl
open PySem.W.KT renaming app_list->aby
open False renaming elim->abH
open PySem.NameKind renaming free->abP,cell->aeF
open Option renaming isSome_iff_exists->abQ,getD_some->adU,none->aep,isSome_map->aeO
open PySem.Builtin.List renaming listTooLong->abR
open PySem.Builtin.Slice renaming slicePlaces->ab3,sliceAdjust->acw,sliceApplied->adp
open PySem.Builtin.Tuple renaming tupleExact->ab6,tupleItemsOf->adq
open PySem.PyData renaming shownAll->ab7,hasDictAll->adL,depthAll->aed,showableAll->aeI
open PySem.StrLaws renaming found_one->ab9,glued_eq_join->acs,reprText_len->ac7
open Ne renaming symm->ack
open ForInStep renaming yield->acp
open Array renaming length_toList->acz,append_assoc->acH,getD_eq_getD_getElem?->adf
open PySem.Txt renaming split->acM,slice->adg,join->adz,stripChars->aen,isupper->aez
open PySem.Calls renaming callWith_builtin->acV,evalArgs_plain->ac6,Name_function_global->adm,Constant_str->adv,spliced_cons->adx
open PySem.Builtin.Str renaming glued->acX,strSliceIndices->adh
open Sum.inr renaming inj->ac8
open PySem.SeqAt.EqAt renaming int_str->adt,str_int->adu,same->aea,none_bool->aef,bool_none->aeg,bool_bool->aei,none_int->aer,none_str->aes,bool_int->aet,bool_str->aeu,int_none->aev,int_bool->aew,str_none->aex,str_bool->aey,int_int->aeD,str_str->aeE
open True renaming intro->adH
open PySem.Obj renaming mapSeq->adI
open PySem.AutoSeq1 renaming wpAny_loadPart'->adJ
open PySem.Builtin.Dict renaming updateFrom->adS,pairItems->ad2
open PySem.W.Looks renaming ld->ad3
open PySem.Around renaming under->ad8,under_plainId->aej
open PySem.W.KF renaming type_class->aeJ
open PySem.SeqAt renaming EqAt->aeN
open Function renaming comp_def->aeP
open PySem.Code renaming isFrame->aeS
open Std.Legacy renaming Range->aeY
open PySem.SeqAt.RcAt renaming lists->aeZ
open PySem.Heap.DictOf renaming new->ae3
theorem Lm9 {α:Type _} {β:Type _} {as:List α} (f:α→β):(as.map f).length=as.length:=List.length_map f
theorem Ge9 {α:Type _} {l:List α} {i:Nat} (h:i<l.length):l[i]?=some l[i]:=List.getElem?_eq_getElem h
theorem Gd9 {α:Type _} {l:List α} {i:Nat} {a:α}:l.getD i a=(l[i]?).getD a:=List.getD_eq_getElem?_getD
namespace L2
open PySem PySem.Spec PyProof.Rows
abbrev Key:=Sum Int Str
def yB:Key→aai→Bool
 | .inl k,v=>Value.isInt k v
 | .inr x,v=>Value.isStrOf x v
def VL (w:abg):Key→Int
 | .inl k=>hashInt k
 | .inr x=>hashStr w x
theorem cQ:∀{k:Key} {v:aai},yB k v=true→(∃i t,k=aeL i∧v=ae0 i t)∨(∃x t,k=aa3 x∧v=abN x t)
 | .inl i,v,h=>by
  obtain⟨t,e⟩:=Value.isInt_shape (k:=i) (v:=v) h
  exact .inl ⟨i,t,rfl,e⟩
 | .inr x,v,h=>by
  obtain⟨t,e⟩:=Value.isStrOf_shape (x:=x) (v:=v) h
  exact .inr ⟨x,t,rfl,e⟩
theorem GI (i:Int) (t:Tok):yB (.inl i) (.int i t)=true:=by simp [yB,Value.isInt]
theorem GJ (x:Str) (t:Tok):yB (.inr x) (.str x t)=true:=by simp [yB,Value.isStrOf]
theorem Ox (a b:Int):decide ((aeL a:Key)=aeL b)=(a == b):=by
 by_cases e:a=b
 ·subst e;simp
 ·have h:¬ (aeL a:Key)=aeL b:=fun q=>e (Sum.inl.inj q)
  rw [decide_eq_false h]
  exact(beq_eq_false_iff_ne.mpr e).symm
theorem Oy (a b:Str):decide ((aa3 a:Key)=aa3 b)=decide (a=b):=by
 by_cases e:a=b
 ·subst e;simp
 ·have h:¬ (aa3 a:Key)=aa3 b:=fun q=>e (ac8 q)
  rw [decide_eq_false h,decide_eq_false e]
theorem Oz (a:Int) (b:Str):decide ((aeL a:Key)=aa3 b)=false:=decide_eq_false (fun q=>nomatch q)
theorem OA (a:Str) (b:Int):decide ((aa3 a:Key)=aeL b)=false:=decide_eq_false (fun q=>nomatch q)
def bV (prog:aaS) (w:abg):PySem.KeyKind prog w Key where
 is:=yB
 hash:=VL w
 inj:=fun v a b ha hb=>by
  rcases cQ ha with⟨i,t,rfl,rfl⟩|⟨x,t,rfl,rfl⟩
  ·rcases cQ hb with⟨j,u,rfl,e⟩|⟨y,u,rfl,e⟩
   ·injection e with e1 _;rw [e1]
   ·exact nomatch e
  ·rcases cQ hb with⟨j,u,rfl,e⟩|⟨y,u,rfl,e⟩
   ·exact nomatch e
   ·injection e with e1 _;rw [e1]
 byValue:=fun k v h=>by
  rcases cQ h with⟨i,t,rfl,rfl⟩|⟨x,t,rfl,rfl⟩ <;> rfl
 pyHash:=fun hv h=>by
  rcases cQ hv with⟨i,t,rfl,rfl⟩|⟨x,t,rfl,rfl⟩
  ·exact wpAny_pyHash_int h
  ·exact wpAny_pyHash_str h
 eqBool:=fun hu hv h=>by
  rcases cQ hu with⟨i,t,rfl,rfl⟩|⟨x,t,rfl,rfl⟩
  ·rcases cQ hv with⟨j,u,rfl,rfl⟩|⟨y,u,rfl,rfl⟩
   ·rw [Ox] at h;exact wpAny_eqBool_int h
   ·rw [Oz] at h;exact adt i t y u _ _ _ _ h
  ·rcases cQ hv with⟨j,u,rfl,rfl⟩|⟨y,u,rfl,rfl⟩
   ·rw [OA] at h;exact adu x t j u _ _ _ _ h
   ·rw [Oy] at h;exact wpAny_eqBool_str h
 «strs»:=fun k x t v h=>by
  rcases cQ h with⟨i,u,rfl,e⟩|⟨y,u,rfl,e⟩
  ·exact nomatch e
  ·injection e with e1 _
   subst e1
   cases v <;> rfl
theorem Cc (prog:aaS) (w:abg) (i:Int) (t:Tok):(bV prog w).is (.inl i) (.int i t)=true:=GI i t
theorem Cd (prog:aaS) (w:abg) (x:Str) (t:Tok):(bV prog w).is (.inr x) (.str x t)=true:=GJ x t
end L2
namespace L2
open PySem PySem.Spec PyProof.Rows
inductive V where
 | cB|bl (b:Bool)|int (i:Int)|str (x:Str)|Io (b:Array UInt8)|UC (b:UInt64)|ref (a:aaB)|ty (n:String)|tok (x:Str) (t:Nat)
 deriving DecidableEq
def V.pl:V→Bool
 | .tok _ _=>false
 | _=>true
def RelV:V→aai→Prop
 | .cB,u=>u=aeM
 | .bl b,u=>u=adF b
 | .int i,u=>∃t,u=ae0 i t
 | .str x,u=>∃t,u=abN x t
 | .Io b,u=>∃t,u=Value.bytes b t
 | .UC b,u=>∃t,u=Value.float b t
 | .ref a,u=>u=abh a
 | .ty n,u=>u=Value.type n
 | .tok x t,u=>u=abN x t
abbrev Vals:List V→List aai→Prop:=Paired RelV
theorem Vals.length {xs:List V} {us:List aai} (r:Vals xs us):xs.length=us.length:=aao r
theorem Vals.get:∀{xs:List V} {us:List aai} {i:Nat} {x:V},Vals xs us→xs[i]?=some x→∃u,us[i]?=some u∧RelV x u
 | _,_,_,_,.nil,e=>by simp at e
 | _,_,0,_,.cons r _,e=>by simp at e;subst e;exact⟨_,rfl,r⟩
 | _,_,i+1,x,.cons _ t,e=>by
  obtain⟨u,h1,h2⟩:=Vals.get (i:=i) (x:=x) t (by simpa using e)
  exact⟨u,by simpa using h1,h2⟩
theorem Vals.set {x:V} {u:aai} (r:RelV x u):∀{xs:List V} {us:List aai} (i:Nat),Vals xs us→Vals (xs.set i x) (us.set i u)
 | _,_,_,.nil=>.nil
 | _,_,0,.cons _ t=>.cons r t
 | _,_,i+1,.cons q t=>.cons q (Vals.set r i t)
theorem Vals.append:∀{xs ys:List V} {us ws:List aai},Vals xs us→Vals ys ws→Vals (xs++ys) (us++ws)
 | _,_,_,_,.nil,s=>s
 | _,_,_,_,.cons r t,s=>.cons r (Vals.append t s)
theorem Vals.take:∀{xs:List V} {us:List aai} (n:Nat),Vals xs us→Vals (xs.take n) (us.take n)
 | _,_,0,_=>.nil
 | _,_,_+1,.nil=>.nil
 | _,_,n+1,.cons r t=>.cons r (Vals.take n t)
theorem Vals.drop:∀{xs:List V} {us:List aai} (n:Nat),Vals xs us→Vals (xs.drop n) (us.drop n)
 | _,_,0,r=>r
 | _,_,_+1,.nil=>.nil
 | _,_,n+1,.cons _ t=>Vals.drop n t
theorem Vals.none_of:∀{xs:List V} {us:List aai} {i:Nat},Vals xs us→xs[i]?=none→us[i]?=none:=fun {xs us i} r e=>by
 have h1:=r.length
 have h2:xs.length≤i:=adB.mp e
 exact adB.mpr (by omega)
def kZ:Option V→Option aai→Prop
 | some v,some u=>RelV v u
 | none,none=>True
 | _,_=>False
def KV {κ:Type}:List (κ × V)→List (κ × aai)→Prop:=Paired fun(p:κ × V) (q:κ × aai)=>p.1=q.1∧RelV p.2 q.2
def kV:Key→V
 | .inl i=>.int i
 | .inr x=>.str x
inductive HO where
 | lst (xs:List V)
 | tup (xs:List V)
 | dK (kvs:List (Key × V))|dT (kvs:List (List Key × V))
 | set (S:Int→Bool) (n:Nat)
 | ins (C dx:aaB) (fs:List (Str × V))
 | own (x:aaB)
 | xd (fs:List (Str × V))
 | met (f x:aaB)
 | UD (lo hi:Int)
 | xf (o:Obj) (u:HO)
 | Li (ps:Array aai)
 | ext (φ:Heap→Prop)
abbrev Hp:=aaB→Option HO
def upd (H:Hp) (a:aaB) (o:HO):Hp:=fun b=>if b=a then some o else H b
theorem ae {H:Hp} {a:aaB} {o:HO}:upd H a o a=some o:=by unfold upd;rw [if_pos rfl]
theorem aH {H:Hp} {a b:aaB} {o:HO} (h:b≠a):upd H a o b=H b:=by unfold upd;rw [if_neg h]
theorem Fv {H:Hp} {a:aaB} {o u:HO}:upd (upd H a o) a u=upd H a u:=by
 funext b;unfold upd;split <;> rfl
theorem Ce {H:Hp} {a b:aaB} {o u:HO} (h:H a=some o) (h':H b=some u) (d:o≠u):a≠b:=by
 intro e;subst e;rw [h] at h';exact d (aa7 h')
theorem aP {H:Hp} {a b:aaB} {o:HO} (h:H a=some o) (h':H b=none):a≠b:=by
 intro e;subst e;rw [h] at h';cases h'
section
variable (P:aaS) (w:abg)
def dy (H:Hp) (h:Heap) (a:aaB):HO→Prop
 | .lst xs=>xs.length≤aaj∧∃(its:List aai) (n:Nat),Vals xs its∧h.get? a=some { cls:=.type "list",data:=.seq its.toArray n }
 | .tup xs=>xs.length≤aaj∧∃its:List aai,Vals xs its∧IsTup h a its.toArray
 | .dK kvs=>kvs.length≤aaj∧(a == sysModules)=false∧∃vs,KV kvs vs∧h.DictOf (bV P w) a vs
 | .dT kvs=>kvs.length≤aaj∧(a == sysModules)=false∧∃xs:List (List Key × aaB × aai),
   Paired (fun(p:List Key × V) (q:List Key × aaB × aai)=>p.1=q.1∧H q.2.1=some (.tup (p.1.map kV))∧RelV p.2 q.2.2) kvs xs ∧
   ∃o es ep,h.get? a=some o∧o.ExactDict∧o.data=.dict es ep∧es.toList=xs.map (entryOfKey (tupleKind (bV P w)))∧(xs.map (·.1)).Nodup
 | .set S n=>h.SetOf (intKind P w) a S n
 | .ins C dx fs=>H dx=some (.own a)∧fs.length≤1000∧dx≠a∧h.get? a=some (abZ C dx) ∧
   ∃mA,h.Ns1 dx mA∧(∀f,kZ (fs.lookup f) (mA f))∧aeQ mA (fs.map (·.1))
 | .own _=>∃o,h.get? a=some o
 | .xd fs=>∃mA,h.Ns1 a mA∧∀f,kZ (fs.lookup f) (mA f)
 | .UD lo hi=>∃t u v,h.get? a=some { cls:=.type "range",data:=.fields #[.int lo t,.int hi u,.int 1 v] }
 | .xf o u=>h.get? a=some o∧dy H h a u
 | .Li ps=>h.get? a=some { cls:=.none,data:=.fields ps }
 | .met f x=>h.get? a=some (adG (.ref f) (.ref x))
 | .ext φ=>φ h∧(∃o,h.get? a=some o)∧∀h1 h2:Heap,φ h1→(∀o,h1.get? a=some o→h2.get? a=some o)→φ h2
def ly (H:Hp) (h:Heap):Prop:=∀a o,H a=some o→dy P w H h a o
end
section
variable {P:aaS} {w:abg} {H H':Hp} {h h':Heap} {a:aaB} {o:HO}
theorem dy.lt (x:dy P w H h a o):a<h.objs.size:=by
 cases o with
 | lst xs=>obtain⟨_,_,_,_,e⟩:=x;exact aaV e
 | tup xs=>obtain⟨_,_,_,p⟩:=x;exact p.lt
 | dK kvs=>obtain⟨_,_,_,_,o,_,_,e,_⟩:=x;exact aaV e
 | dT kvs=>obtain⟨_,_,_,_,o,_,_,e,_⟩:=x;exact aaV e
 | set S n=>obtain⟨o,_,_,_,e,_⟩:=x;exact aaV e
 | ins C dx fs=>obtain⟨_,_,_,e,_⟩:=x;exact aaV e
 | own y=>obtain⟨_,e⟩:=x;exact aaV e
 | xd fs=>obtain⟨_,⟨_,_,_,e,_⟩,_⟩:=x;exact aaV e
 | UD lo hi=>obtain⟨_,_,_,e⟩:=x;exact aaV e
 | xf ob u=>obtain⟨e,_⟩:=x;exact aaV e
 | Li ps=>exact aaV (show h.get? a=some _ from x)
 | met f y=>exact aaV (show h.get? a=some _ from x)
 | ext φ=>obtain⟨_,⟨_,e⟩,_⟩:=x;exact aaV e
theorem Paired.d9 {α β:Type} {F G:α→β→Prop}:∀{l₁:List α} {l₂:List β},Paired F l₁ l₂→(∀a b,F a b→G a b)→Paired G l₁ l₂
 | _,_,.nil,_=>.nil
 | _,_,.cons r t,f=>.cons (f _ _ r) (Paired.d9 t f)
theorem dy.Eh (x:dy P w H h a o) (k:∀b u,(b=a∨H b=some (.own a))→h.get? b=some u→h'.get? b=some u)
  (ho:∀b,H b=some (.own a)→H' b=some (.own a)) (ht:∀b xs,H b=some (.tup xs)→H' b=some (.tup xs)):dy P w H' h' a o:=by
 induction o with
 | lst xs=>obtain⟨z,its,n,r,e⟩:=x;exact⟨z,its,n,r,k _ _ (.inl rfl) e⟩
 | tup xs=>obtain⟨z,its,r,ob,e,c⟩:=x;exact⟨z,its,r,ob,k _ _ (.inl rfl) e,c⟩
 | dK kvs=>obtain⟨z,y,vs,r,ob,es,ep,e,c⟩:=x;exact⟨z,y,vs,r,ob,es,ep,k _ _ (.inl rfl) e,c⟩
 | dT kvs =>
  obtain⟨z,y,xs,r,ob,es,ep,e,c⟩:=x
  exact⟨z,y,xs,Paired.d9 r fun p q z=>⟨z.1,ht _ _ z.2.1,z.2.2⟩,ob,es,ep,k _ _ (.inl rfl) e,c⟩
 | set S n=>obtain⟨ob,es,ep,t,e,c⟩:=x;exact⟨ob,es,ep,t,k _ _ (.inl rfl) e,c⟩
 | ins C dx fs =>
  obtain⟨d,z,ne,e,mA,⟨od,es,ep,e2,c⟩,r⟩:=x
  exact⟨ho _ d,z,ne,k _ _ (.inl rfl) e,mA,⟨od,es,ep,k _ _ (.inr d) e2,c⟩,r⟩
 | own y=>obtain⟨ob,e⟩:=x;exact⟨ob,k _ _ (.inl rfl) e⟩
 | xd fs=>obtain⟨mA,⟨od,es,ep,e,c⟩,r⟩:=x;exact⟨mA,⟨od,es,ep,k _ _ (.inl rfl) e,c⟩,r⟩
 | UD lo hi=>obtain⟨t,u,v,e⟩:=x;exact⟨t,u,v,k _ _ (.inl rfl) e⟩
 | xf ob u ih=>obtain⟨e,q⟩:=x;exact⟨k _ _ (.inl rfl) e,ih q⟩
 | Li ps =>
  have e:h.get? a=some { cls:=.none,data:=.fields ps }:=x
  show h'.get? a=some { cls:=.none,data:=.fields ps }
  exact k a _ (.inl rfl) e
 | met f y =>
  have e:h.get? a=some (adG (.ref f) (.ref y)):=x
  show h'.get? a=some (adG (.ref f) (.ref y))
  exact k a _ (.inl rfl) e
 | ext φ=>obtain⟨p,⟨o,e⟩,st⟩:=x;exact⟨st _ _ p fun o q=>k _ _ (.inl rfl) q,⟨o,k _ _ (.inl rfl) e⟩,st⟩
theorem ly.lt (x:ly P w H h) (e:H a=some o):a<h.objs.size:=(x a o e).lt
theorem ly.fresh (x:ly P w H h) (e:h.objs.size≤a):H a=none:=by
 cases q:H a with
 | none=>rfl
 | some u=>exact absurd (aaY (x.lt q) e) (acd _)
theorem ly.kept (x:ly P w H h) (k:∀b u,h.get? b=some u→h'.get? b=some u):ly P w H h':=fun a o e =>
 (x a o e).Eh (fun b u _ q=>k b u q) (fun _ q=>q) fun _ _ q=>q
theorem ly.laid (x:ly P w H h) (k:∀b u,h.get? b=some u→h'.get? b=some u) (hp:h.objs.size≤a) (new:dy P w (upd H a o) h' a o):ly P w (upd H a o) h':=fun b u e=>by
 have hn:=x.fresh hp
 by_cases hb:b=a
 ·subst hb;rw [ae] at e;cases e;exact new
 ·rw [aH hb] at e
  exact(x b u e).Eh (fun c v _ q=>k c v q) (fun c q=>by rw [aH (aP q hn)];exact q) fun c xs q=>by rw [aH (aP q hn)];exact q
end
def Rd (H:Hp) (a:aaB) (u:HO):Prop:=H a=some u∨∃o,H a=some (.xf o u)
theorem Rd.ok {P:aaS} {w:abg} {H:Hp} {h:Heap} {a:aaB} {u:HO} (r:Rd H a u) (x:ly P w H h):dy P w H h a u:=by
 rcases r with r|⟨o,r⟩
 ·exact x a u r
 ·obtain⟨_,q⟩:=x a _ r
  exact q
def Rk:Option HO→Prop
 | some (.lst _)=>True
 | some (.dK _)=>True
 | some (.dT _)=>True
 | some (.set _ _)=>True
 | some (.ins _ _ _)=>True
 | some (.ext _)=>True
 | _=>False
section
variable {P:aaS} {w:abg} {H:Hp} {h h':Heap} {x e:aaB} {o':HO}
theorem ly.write (ok:ly P w H h) (mu:Rk (H x)) (he:e=x∨H e=some (.own x)) (k:∀b u,b≠e→h.get? b=some u→h'.get? b=some u) (QJ:∃u,h'.get? e=some u)
  (new:dy P w (upd H x o') h' x o'):ly P w (upd H x o') h':=fun b u q=>by
 have Rm:∀c y,H c=some (.own y)→c≠x:=fun c y r z=>by subst z;rw [r] at mu;exact mu
 have VM:∀c xs,H c=some (.tup xs)→c≠x:=fun c xs r z=>by subst z;rw [r] at mu;exact mu
 by_cases hb:b=x
 ·subst hb;rw [ae] at q;cases q;exact new
 ·rw [aH hb] at q
  by_cases OB:b=e
  ·have q':H b=some (.own x):=by
    rcases he with z|z
    ·exact absurd (OB.trans z) hb
    ·rw [OB];exact z
   rw [q] at q';cases q'
   obtain⟨v,hv⟩:=QJ
   exact⟨v,by rw [OB];exact hv⟩
  ·refine(ok b u q).Eh (fun c v hc r=>k c v ?_ r) (fun c r=>by rw [aH (Rm c b r)];exact r) fun c xs r=>by rw [aH (VM c xs r)];exact r
   rcases hc with rfl|hc
   ·exact OB
   ·rintro rfl
    rcases he with z|z
    ·exact Rm c b hc z
    ·rw [hc] at z;cases z;exact hb rfl
end
structure Un (fs ex:List aaB) (H H':Hp) (h h':Heap):Prop where
 keep:∀b o,h.get? b=some o→H b=none→b∉fs→b∉ex→h'.get? b=some o
 slot:∀b o,h.get? b=some o→H b=none→b∈fs→b∉ex→∃sl,h'.get? b=some { o with slots:=sl }
 free:∀b o,h.get? b=some o→H b=none→b∉ex→H' b=none
 there:∀b o,h.get? b=some o→b∉ex→∃o',h'.get? b=some o'
 lj:∀b xs,H b=some (.tup xs)→H' b=some (.tup xs)
 ju:∀b o u,H b=some (.xf o u)→H' b=some (.xf o u)
 lq:∀b ps,H b=some (.Li ps)→∃more,H' b=some (.Li (ps++more))
section
variable {fs fs' ex ex':List aaB} {H H1 H2:Hp} {h h1 h2 h':Heap} {a x e:aaB} {o:HO}
theorem Un.any (u:Un fs ex H H1 h h1) {b:aaB} {ob:Obj} (q:h.get? b=some ob) (n:H b=none) (hx:b∉ex):∃sl,h1.get? b=some { ob with slots:=sl }:=by
 by_cases hb:b∈fs
 ·exact u.slot b ob q n hb hx
 ·exact⟨ob.slots,u.keep b ob q n hb hx⟩
theorem Un.trans (a:Un fs ex H H1 h h1) (b:Un fs ex H1 H2 h1 h2):Un fs ex H H2 h h2 where
 keep:=fun c ob q n hc hx=>b.keep c ob (a.keep c ob q n hc hx) (a.free c ob q n hx) hc hx
 slot:=fun c ob q n hc hx=>by
  obtain⟨sl,e1⟩:=a.slot c ob q n hc hx
  obtain⟨sl',e2⟩:=b.slot c _ e1 (a.free c ob q n hx) hc hx
  exact⟨sl',e2⟩
 free:=fun c ob q n hx=>by
  obtain⟨o',e1⟩:=a.there c ob q hx
  exact b.free c o' e1 (a.free c ob q n hx) hx
 there:=fun c ob q hx=>by
  obtain⟨o',e1⟩:=a.there c ob q hx
  exact b.there c o' e1 hx
 lj:=fun c xs q=>b.lj c xs (a.lj c xs q)
 ju:=fun c ob xs q=>b.ju c ob xs (a.ju c ob xs q)
 lq:=fun c ps q=>by
  obtain⟨m1,e1⟩:=a.lq c ps q
  obtain⟨m2,e2⟩:=b.lq c _ e1
  exact⟨m1++m2,by rw [e2,acH]⟩
theorem Un.kept (k:∀b u,h.get? b=some u→h'.get? b=some u):Un fs ex H H h h' :=
 ⟨fun b ob q _ _ _=>k b ob q,fun b ob q _ _ _=>⟨ob.slots,k b ob q⟩,fun _ _ _ n _=>n,fun b ob q _=>⟨ob,k b ob q⟩,fun _ _ q=>q,fun _ _ _ q=>q,fun _ ps q=>⟨#[],by rw [q];simp⟩⟩
theorem Un.refl:Un fs ex H H h h:=Un.kept fun _ _ q=>q
theorem Un.laid (k:∀b u,h.get? b=some u→h'.get? b=some u) (hp:h.objs.size≤a) (hn:H a=none):Un fs ex H (upd H a o) h h' where
 keep:=fun b u q _ _ _=>k b u q
 slot:=fun b u q _ _ _=>⟨u.slots,k b u q⟩
 free:=fun b u q n _=>by rw [aH (abd (aaY (aaV q) hp))];exact n
 there:=fun b u q _=>⟨u,k b u q⟩
 lj:=fun b xs q=>by rw [aH (aP q hn)];exact q
 ju:=fun b u xs q=>by rw [aH (aP q hn)];exact q
 lq:=fun b ps q=>⟨#[],by rw [aH (aP q hn),q];simp⟩
theorem Un.write (mu:Rk (H x)) (he:e=x∨H e=some (.own x)) (k:∀b u,b≠e→h.get? b=some u→h'.get? b=some u) (QJ:∃u,h'.get? e=some u):Un fs ex H (upd H x o) h h':=by
 have hx:∀b,H b=none→b≠x:=fun b n z=>by subst z;rw [n] at mu;exact mu
 have hb:∀b,H b=none→b≠e:=fun b n z=>by
  subst z
  rcases he with r|r
  ·exact hx b n r
  ·rw [n] at r;cases r
 have hm:∀b u,H b=some u→¬ Rk (some u)→b≠x:=fun b u q nm z=>by subst z;rw [q] at mu;exact nm mu
 refine⟨fun b u q n _ _=>k b u (hb b n) q,fun b u q n _ _=>⟨u.slots,k b u (hb b n) q⟩,fun b u q n _=>by rw [aH (hx b n)];exact n,fun b u q _=>?_,
  fun b xs q=>by rw [aH (hm b _ q fun z=>z)];exact q,fun b u xs q=>by rw [aH (hm b _ q fun z=>z)];exact q,fun b ps q=>⟨#[],by rw [aH (hm b _ q fun z=>z),q];simp⟩⟩
 by_cases OB:b=e
 ·subst OB;exact QJ
 ·exact⟨u,k b u OB q⟩
end
def UE (h:Heap) (H:Hp):List aaB:=(abC h.objs.size).filter fun a=>(H a).isSome
def zF (h:Heap) (H:Hp):Heap:=acI h (UE h H)
theorem GK (h:Heap) (H:Hp):(zF h H).objs.size=h.objs.size:=PySem.W.hideAll_size _ _
theorem Iz {h:Heap} {H:Hp} {b:aaB} {o:Obj} (e:h.get? b=some o) (n:H b=none):(zF h H).get? b=some o :=
 aeo _ e fun hm=>by
  have q:(H b).isSome=true:=(abf.mp hm).2
  rw [n] at q;simp at q
theorem LD {h:Heap} {H:Hp} {b:aaB} {o:Obj} (e:(zF h H).get? b=some o):h.get? b=some o∧H b=none:=by
 have e':h.get? b=some o:=aeC (UE h H) e
 refine⟨e',?_⟩
 cases q:H b with
 | none=>rfl
 | some x =>
  have hm:b∈UE h H:=abf.mpr ⟨acv.mpr (aaV e'),by simp [q]⟩
  have z:(zF h H).get? b=none:=PySem.W.hideAll_none (UE h H) hm
  rw [z] at e;cases e
end L2
namespace L2
open PySem PySem.Spec PyProof.Rows
structure Mod (K:aae) (mg:Str→Option aai) (base:Heap):Prop where
 Ny:K.In base
 glob:base.Ns aaU mg
 blt:∃mb,base.Ns builtinsNs mb∧∀x:Str,x≠"__name__"→mb x=bootBuiltins x
 nolimit:base.NoLimit
structure Cx where
 prog:aaS
 w:abg
 K:aae
 mg:Str→Option aai
 base:Heap
 A:abi
 N:List Str
 s₀:aan
 H₀:Hp
 env:Env
 outer:List Env
 stack:List Env
 ex:List aaB
 fn:Str→Bool
 calm:Bool
 pn:List (aaB × Obj)
 xe:aai→aan→Prop
def g9 (l:List Env):List aaB:=l.filterMap (·.frame)
abbrev Cx.fs (X:Cx):List aaB:=g9 X.outer
def UG (sc:Scope) (x:Str):Prop:=sc.names.lookup x=some .local∨sc.names.lookup x=some .cell∨sc.names.lookup x=some .free
def Loc (sc:Scope) (x:Str):Prop:=sc.names.lookup x=some .local∨sc.names.lookup x=some .cell
def Look (env:Env) (h:Heap) (m:Str→Option aai) (x:Str) (u:aai):Prop :=
 (env.kindOf x=some .local∧m x=some u)∨((env.kindOf x=some .cell∨env.kindOf x=some .free)∧∃c,env.cells.lookup x=some c∧h.IsCell c (some u))
structure Cx.Ok (X:Cx):Prop where
 mod:Mod X.K X.mg X.base
 kind:X.env.scope.kind=.function
 glob:X.env.globals=aaU
 blt:X.env.builtins=builtinsNs
 above:X.s₀.heap.objs.size≤X.env.locals
 inj:∀x y c,X.env.cells.lookup x=some c→X.env.cells.lookup y=some c→x=y
 has:∀x,(X.env.kindOf x=some .cell∨X.env.kindOf x=some .free)→∃c,X.env.cells.lookup x=some c
 OC:∀x c,X.fn x=true→X.env.cells.lookup x=some c→X.s₀.heap.objs.size≤c
 hd:X.calm=true→X.A.handled=none
 frames:X.A.frames=some X.stack
 QK:X.stack=X.outer∨(X.stack=X.env::X.outer∧X.env.frame=some X.env.locals)
 VN:∀b∈X.ex,b≠X.env.locals∧∀x c,X.env.cells.lookup x=some c→c≠b
 bs:∀b o,X.base.get? b=some o→X.s₀.heap.get? b=some o∧X.H₀ b=none
 Lj:X.base.objs.size≤X.s₀.heap.objs.size
 GL:∀b o,X.base.get? b=some o→b∉X.ex
 IA:∀b∈X.ex,b∉X.fs
 pG:X.s₀.heap.FunFrames X.base X.outer
 Nz:∀b∈X.fs,X.H₀ b=none
structure Inv (X:Cx) (pins:List (aaB × Obj)) (σ:List (Option V)) (H:Hp) (s:aan):Prop where
 ok:X.Ok
 os:s.os=X.s₀.os
 bare:AllBare s.gens
 base:Un X.fs X.ex X.H₀ H X.s₀.heap s.heap
 loc:∃m,s.heap.Ns X.env.locals m∧∀(i:Nat) (x:Str) (v:V),X.N[i]?=some x→σ[i]?=some (some v)→UG X.env.scope x→∃u,RelV v u∧Look X.env s.heap m x u
 cell:∀x c,X.env.cells.lookup x=some c→∃v,s.heap.IsCell c v
 free:H X.env.locals=none
 gG:∀x c,X.env.cells.lookup x=some c→H c=none
 pin:∀p∈X.pn++pins,s.heap.get? p.1=some p.2∧H p.1=none∧p.1≠X.env.locals∧p.1∉X.fs∧∀v,p.2.data≠.cell v
 hok:ly X.prog X.w H s.heap
 len:σ.length=X.N.length
section
variable {X:Cx} {pins:List (aaB × Obj)} {σ:List (Option V)} {H H':Hp} {s:aan} {h':Heap}
theorem Cx.Ok.VO (ok:X.Ok) {b:aaB} {o:Obj} (e:X.base.get? b=some o):b∉X.fs:=fun hb=>by
 have:=(ok.pG.mem hb).1
 rw [e] at this;cases this
theorem Inv.bs (I:Inv X pins σ H s):∀b o,X.base.get? b=some o→s.heap.get? b=some o∧H b=none:=fun b o e =>
 ⟨I.base.keep b o (I.ok.bs b o e).1 (I.ok.bs b o e).2 (I.ok.VO e) (I.ok.GL b o e),I.base.free b o (I.ok.bs b o e).1 (I.ok.bs b o e).2 (I.ok.GL b o e)⟩
theorem Inv.bk (I:Inv X pins σ H s):∀b o,X.base.get? b=some o→s.heap.get? b=some o:=fun b o e=>(I.bs b o e).1
theorem Inv.mod (I:Inv X pins σ H s):Mod X.K X.mg X.base:=I.ok.mod
theorem Inv.zG (I:Inv X pins σ H s):X.K.In s.heap:=I.ok.mod.Ny.keeps I.bk
theorem Inv.nolimit (I:Inv X pins σ H s):s.heap.NoLimit:=I.ok.mod.nolimit.keeps I.bk
theorem Inv.lt (I:Inv X pins σ H s):X.env.locals<s.heap.objs.size:=let ⟨_,hn,_⟩:=I.loc;hn.lt
theorem Inv.sz (I:Inv X pins σ H s):X.s₀.heap.objs.size≤s.heap.objs.size:=abj I.ok.above (ad5 I.lt)
theorem Inv.VP (I:Inv X pins σ H s) {a:aaB} (h:s.heap.objs.size≤a):a∉X.fs:=fun hb=>by
 obtain⟨_,o,ho,_⟩:=I.ok.pG.mem hb
 exact absurd (aaY (aaV ho) (abj I.sz h)) (acd _)
theorem Inv.GN (I:Inv X pins σ H s):∀x c,X.env.cells.lookup x=some c→c≠X.env.locals:=fun x c e z=>by
 obtain⟨v,o,ho,hd⟩:=I.cell x c e
 obtain⟨m,⟨o',es,ep,ho',hd',_⟩,_⟩:=I.loc
 rw [z,ho'] at ho;cases ho;rw [hd'] at hd;cases hd
theorem Inv.pG (I:Inv X pins σ H s):s.heap.FunFrames X.base X.outer:=by
 have all:∀(l:List Env),(∀b∈g9 l,b∈X.fs)→X.s₀.heap.FunFrames X.base l→s.heap.FunFrames X.base l:=by
  intro l
  induction l with
  | nil=>intro _ _;trivial
  | cons env r ih =>
   intro hs hl
   obtain⟨hk,⟨L,o,hf,hn,ho,hd⟩,hr⟩:=hl
   have hL:L∈X.fs:=hs L (by unfold g9;rw [ace,hf];exact aav)
   obtain⟨sl,e⟩:=I.base.slot L o ho (I.ok.Nz L hL) hL fun z=>I.ok.IA L z hL
   exact⟨hk,⟨L,_,hf,hn,e,hd⟩,ih (fun b hb=>hs b (by unfold g9;rw [ace,hf];exact aam _ hb)) hr⟩
 exact all X.outer (fun _ hb=>hb) I.ok.pG
theorem Inv.stack (I:Inv X pins σ H s):s.heap.FunFrames X.base X.stack:=by
 rcases I.ok.QK with e|⟨e,hf⟩
 ·rw [e];exact I.pG
 ·rw [e]
  obtain⟨m,hn,_⟩:=I.loc
  refine .cons (by rw [I.ok.kind];decide) hf hn ?_ I.pG
  exact Heap.get?_none_of_le (abj I.ok.Lj I.ok.above)
theorem Inv.zH (I:Inv X pins σ H s):∀b∈g9 X.stack,b∈X.env.locals::X.fs:=fun b hb=>by
 rcases I.ok.QK with e|⟨e,hf⟩
 ·rw [e] at hb;exact aam _ hb
 ·rw [e] at hb
  unfold g9 at hb
  rw [ace,hf] at hb
  exact hb
theorem Inv.zI (I:Inv X pins σ H s):∀b∈g9 X.stack,H b=none:=fun b hb=>by
 rcases aaN.mp (I.zH b hb) with e|hb
 ·rw [e];exact I.free
 ·obtain⟨_,o,ho,_⟩:=I.ok.pG.mem hb
  exact I.base.free b o ho (I.ok.Nz b hb) fun z=>I.ok.IA b z hb
theorem Inv.step {g':Array GenState} {t':Nat} {d':Drawn} {ch:List aaB} (I:Inv X pins σ H s)
  (Ll:∀b∈ch,(b∈X.ex∨X.s₀.heap.objs.size≤b)∧b≠X.env.locals∧(∀x c,X.env.cells.lookup x=some c→c≠b)∧∀p∈X.pn++pins,p.1≠b)
  (keep:∀b o,b≠X.env.locals→b∉X.fs→b∉ch→s.heap.get? b=some o→H b=none→h'.get? b=some o)
  (slot:∀b o,b≠X.env.locals→b∈X.fs→b∉ch→s.heap.get? b=some o→H b=none→∃sl,h'.get? b=some { o with slots:=sl }) (free:∀b o,b∉ch→s.heap.get? b=some o→H b=none→H' b=none)
  (there:∀b o,b∉ch→s.heap.get? b=some o→∃o',h'.get? b=some o')
  (lj:∀b xs,H b=some (.tup xs)→H' b=some (.tup xs)) (ju:∀b o u,H b=some (.xf o u)→H' b=some (.xf o u)) (lq:∀b ps,H b=some (.Li ps)→∃more,H' b=some (.Li (ps++more)))
  (ns:∀m,s.heap.Ns X.env.locals m→h'.Ns X.env.locals m) (hok:ly X.prog X.w H' h') (hg:AllBare g') :
  Inv X pins σ H' { s with heap:=h',gens:=g',drawn:=d',toks:=t' }:=by
 have Rn:∀b o,X.s₀.heap.get? b=some o→b≠X.env.locals:=fun b o e=>abd (aaY (aaV e) I.ok.above)
 have UH:∀b o,X.s₀.heap.get? b=some o→b∉X.ex→b∉ch:=fun b o e hx hb=>by
  rcases(Ll b hb).1 with z|z
  ·exact hx z
  ·exact absurd (aaY (aaV e) z) (acd _)
 have cellK:∀x c,X.env.cells.lookup x=some c→∀v,s.heap.IsCell c v→h'.IsCell c v:=fun x c e v ⟨o,ho,hd⟩=>by
  have Ro:c∉ch:=fun z=>(Ll c z).2.2.1 x c e rfl
  by_cases hc:c∈X.fs
  ·obtain⟨sl,q⟩:=slot c o (I.GN x c e) hc Ro ho (I.gG x c e)
   exact⟨_,q,hd⟩
  ·exact⟨o,keep c o (I.GN x c e) hc Ro ho (I.gG x c e),hd⟩
 refine⟨I.ok,I.os,hg,⟨fun b o e n hb hx=>?_,fun b o e n hb hx=>?_,fun b o e n hx=>?_,fun b o e hx=>?_,fun b xs e=>lj b xs (I.base.lj b xs e),fun b o xs e=>ju b o xs (I.base.ju b o xs e),fun b ps e=>?_⟩,?_,fun x c e=>?_,?_,fun x c e=>?_,fun p hp=>?_,hok,I.len⟩
 ·exact keep b o (Rn b o e) hb (UH b o e hx) (I.base.keep b o e n hb hx) (I.base.free b o e n hx)
 ·obtain⟨sl,e1⟩:=I.base.slot b o e n hb hx
  obtain⟨sl',e2⟩:=slot b _ (Rn b o e) hb (UH b o e hx) e1 (I.base.free b o e n hx)
  exact⟨sl',e2⟩
 ·obtain⟨o',e1⟩:=I.base.there b o e hx
  exact free b o' (UH b o e hx) e1 (I.base.free b o e n hx)
 ·obtain⟨o',e1⟩:=I.base.there b o e hx
  exact there b o' (UH b o e hx) e1
 ·obtain⟨m1,e1⟩:=I.base.lq b ps e
  obtain⟨m2,e2⟩:=lq b _ e1
  exact⟨m1++m2,by rw [e2,acH]⟩
 ·obtain⟨m,hn,hl⟩:=I.loc
  refine⟨m,ns m hn,fun i x v e1 e2 e3=>?_⟩
  obtain⟨u,r,l⟩:=hl i x v e1 e2 e3
  refine⟨u,r,?_⟩
  rcases l with l|⟨k,c,e,z⟩
  ·exact .inl l
  ·exact .inr ⟨k,c,e,cellK x c e _ z⟩
 ·obtain⟨v,z⟩:=I.cell x c e
  exact⟨v,cellK x c e v z⟩
 ·obtain⟨m,⟨o,_,_,ho,_⟩,_⟩:=I.loc
  exact free _ o (fun z=>(Ll _ z).2.1 rfl) ho I.free
 ·obtain⟨v,o,ho,hd⟩:=I.cell x c e
  exact free c o (fun z=>(Ll c z).2.2.1 x c e rfl) ho (I.gG x c e)
 ·obtain⟨e,n,ne,nf,d⟩:=I.pin p hp
  have Ro:p.1∉ch:=fun z=>(Ll p.1 z).2.2.2 p hp rfl
  exact⟨keep p.1 p.2 ne nf Ro e n,free p.1 p.2 Ro e n,ne,nf,d⟩
theorem Inv.un {t':Nat} (I:Inv X pins σ H s) (u:Un X.fs [] H H' s.heap h') (hok:ly X.prog X.w H' h'):Inv X pins σ H' { s with heap:=h',toks:=t' }:=by
 obtain⟨m,⟨o,es,ep,ho,r⟩,_⟩:=id I.loc
 obtain⟨sl,hL⟩:=u.any ho I.free (by simp)
 exact I.step (g':=s.gens) (d':=s.drawn) (ch:=[]) (fun _ z=>nomatch z) (fun b o _ hb _ e n=>u.keep b o e n hb (by simp)) (fun b o _ hb _ e n=>u.slot b o e n hb (by simp)) (fun b o _ e n=>u.free b o e n (by simp)) (fun b o _ e=>u.there b o e (by simp)) u.lj u.ju u.lq (fun m' hm=>by
  obtain⟨o',VQ,VR,ho',r'⟩:=hm
  rw [ho] at ho';cases ho'
  exact⟨_,VQ,VR,hL,r'⟩) hok I.bare
theorem Inv.call {g':Array GenState} {t':Nat} {d':Drawn} {ch:List aaB} (I:Inv X pins σ H s) (u:Un (g9 X.stack) ch H H' s.heap h') (hok:ly X.prog X.w H' h') (hg:AllBare g')
  (Ll:∀b∈ch,(b∈X.ex∨X.s₀.heap.objs.size≤b)∧b≠X.env.locals∧(∀x c,X.env.cells.lookup x=some c→c≠b)∧∀p∈X.pn++pins,p.1≠b) :
  Inv X pins σ H' { s with heap:=h',gens:=g',drawn:=d',toks:=t' }:=by
 obtain⟨m,⟨o,es,ep,ho,r⟩,_⟩:=id I.loc
 obtain⟨sl,hL⟩:=u.any ho I.free fun z=>(Ll _ z).2.1 rfl
 exact I.step (ch:=ch) Ll (fun b o hL hb hc e n=>u.keep b o e n (fun z=>(aaN.mp (I.zH b z)).elim hL hb) hc) (fun b o _ _ hc e n=>u.any e n hc) (fun b o hc e n=>u.free b o e n hc) (fun b o hc e=>u.there b o e hc) u.lj u.ju u.lq (fun m' hm=>by
  obtain⟨o',VQ,VR,ho',r'⟩:=hm
  rw [ho] at ho';cases ho'
  exact⟨_,VQ,VR,hL,r'⟩) hok hg
theorem Inv.turned {t':Nat} {it:aaB} (I:Inv X pins σ H s) (k:∀b o,b≠it→s.heap.get? b=some o→h'.get? b=some o) (hn:H it=none) (hL:it≠X.env.locals)
  (h1:it∈X.ex∨X.s₀.heap.objs.size≤it) (h2:∀x c,X.env.cells.lookup x=some c→c≠it) (h3:∀p∈X.pn++pins,p.1≠it):Inv X pins σ H { s with heap:=h',toks:=t' }:=by
 have nit:∀b u,H b=some u→b≠it:=fun b u e z=>by rw [z,hn] at e;cases e
 refine I.step (g':=s.gens) (d':=s.drawn) (ch:=[it]) (fun b hb=>?_) (fun b o _ _ hc e _=>k b o (fun z=>hc (by simp [z])) e) (fun b o _ _ hc e _=>⟨o.slots,k b o (fun z=>hc (by simp [z])) e⟩) (fun _ _ _ _ n=>n)
  (fun b o hc e=>⟨o,k b o (fun z=>hc (by simp [z])) e⟩) (fun _ _ e=>e) (fun _ _ _ e=>e) (fun b ps e=>⟨#[],by rw [e];simp⟩) (fun m hm=>?_) (fun b u e=>?_) I.bare
 ·have e:b=it:=by simpa using hb
  subst e
  exact⟨h1,hL,h2,h3⟩
 ·obtain⟨o,es,ep,ho,r⟩:=hm
  exact⟨o,es,ep,k _ o (ack hL) ho,r⟩
 ·refine(I.hok b u e).Eh (fun c v hc q=>k c v ?_ q) (fun _ q=>q) fun _ _ q=>q
  rcases hc with z|z
  ·rw [z];exact nit b u e
  ·exact nit c _ z
theorem Inv.tok (I:Inv X pins σ H s) (t:Nat):Inv X pins σ H { s with toks:=t }:=I.un (h':=s.heap) (t':=t) Un.refl I.hok
theorem Inv.kept {t':Nat} (I:Inv X pins σ H s) (k:∀b u,s.heap.get? b=some u→h'.get? b=some u):Inv X pins σ H { s with heap:=h',toks:=t' }:=I.un (Un.kept k) (I.hok.kept k)
theorem Inv.laid {a:aaB} {o:HO} {t':Nat} (I:Inv X pins σ H s) (k:∀b u,s.heap.get? b=some u→h'.get? b=some u) (hp:s.heap.objs.size≤a) (new:dy X.prog X.w (upd H a o) h' a o) :
  Inv X pins σ (upd H a o) { s with heap:=h',toks:=t' }:=I.un (Un.laid k hp (I.hok.fresh hp)) (I.hok.laid k hp new)
theorem Inv.write {x e:aaB} {o:HO} {t':Nat} (I:Inv X pins σ H s) (mu:Rk (H x)) (he:e=x∨H e=some (.own x)) (k:∀b u,b≠e→s.heap.get? b=some u→h'.get? b=some u) (QJ:∃u,h'.get? e=some u)
  (new:dy X.prog X.w (upd H x o) h' x o):Inv X pins σ (upd H x o) { s with heap:=h',toks:=t' }:=I.un (Un.write mu he k QJ) (I.hok.write mu he k QJ new)
theorem Inv.Fw {gH:List (aaB × Obj)} (I:Inv X pins σ H s) (h:∀p∈gH,s.heap.get? p.1=some p.2∧H p.1=none∧p.1≠X.env.locals∧p.1∉X.fs∧∀v,p.2.data≠.cell v):Inv X gH σ H s :=
 ⟨I.ok,I.os,I.bare,I.base,I.loc,I.cell,I.free,I.gG,fun p hp=>(aaq.mp hp).elim (fun z=>I.pin p (aas _ z)) (h p),I.hok,I.len⟩
theorem uS {N:List Str} (hN:N.Nodup) {i j:Nat} {x:Str} (a:N[i]?=some x) (b:N[j]?=some x):i=j:=by
 obtain⟨h1,e1⟩:=aau.mp a
 obtain⟨h2,e2⟩:=aau.mp b
 exact(List.getElem_inj hN).mp (e1.trans e2.symm)
theorem yC {M:Model} {A:abi} {E:aai→aan→Prop} {i:Nat} {x:Str} {v:V} {u:aai} {Q:Unit→aan→Prop} (I:Inv X pins σ H s) (hN:X.N.Nodup) (hi:X.N[i]?=some x) (hx:Loc X.env.scope x) (r:RelV v u)
  (h:∀s',Inv X pins (σ.set i (some v)) H s'→(∃a,ad6 a s.heap s'.heap∧(a=X.env.locals∨X.env.cells.lookup x=some a))→Q () s') (hf:X.fn x=true∨X.env.scope.names.lookup x=some .local:=by first|exact .inl rfl|exact .inr rfl|assumption):aa8 M A (storeName X.env x u) Q E s:=by
 obtain⟨m,hn,hl⟩:=id I.loc
 have VS:(X.env.scope.kind == .class || (X.env.scope.kind == .module && X.env.locals != X.env.globals))=false:=by rw [I.ok.kind];rfl
 have UI:i<σ.length:=by rw [I.len];exact(aau.mp hi).1
 have GN:=I.GN
 have tracked:∀{a:aaB} {h':Heap},(∃o,s.heap.get? a=some o∧H a=none)→ad6 a s.heap h'→ly X.prog X.w H h':=fun {a h'} ha hs b ob e=>by
  obtain⟨_,_,hfree⟩:=ha
  refine(I.hok b ob e).Eh (fun c w' hc q=>(hs.2 c ?_).trans q) (fun _ q=>q) fun _ _ q=>q
  rintro rfl
  rcases hc with rfl|hc
  ·rw [hfree] at e;cases e
  ·rw [hfree] at hc;cases hc
 rcases hx with hk|hk
 ·refine wpAny_storeName_local hk hn (fun h' hn' hs=>?_) VS
  obtain⟨oL,_,_,hoL,_⟩:=id hn
  refine h _ ⟨I.ok,I.os,I.bare,⟨fun b o e n hb hx=>?_,fun b o e n hb hx=>?_,I.base.free,fun b o e hx=>?_,I.base.lj,I.base.ju,I.base.lq⟩,⟨_,hn',fun j y v' e1 e2 e3=>?_⟩,fun y c e=>?_,I.free,I.gG,fun p hp=>?_,tracked ⟨oL,hoL,I.free⟩ hs,by simpa using I.len⟩ ⟨_,hs,.inl rfl⟩
  ·exact(hs.2 b (abd (aaY (aaV e) I.ok.above))).trans (I.base.keep b o e n hb hx)
  ·obtain⟨sl,e1⟩:=I.base.slot b o e n hb hx
   exact⟨sl,(hs.2 b (abd (aaY (aaV e) I.ok.above))).trans e1⟩
  ·obtain⟨o',e1⟩:=I.base.there b o e hx
   exact⟨o',(hs.2 b (abd (aaY (aaV e) I.ok.above))).trans e1⟩
  ·by_cases hj:j=i
   ·subst hj
    rw [hi] at e1;cases e1
    rw [ach UI] at e2
    cases e2
    exact⟨u,r,.inl ⟨hk,by simp⟩⟩
   ·rw [ac5 (ack hj)] at e2
    obtain⟨u',r',q⟩:=hl j y v' e1 e2 e3
    refine⟨u',r',?_⟩
    rcases q with⟨k,e⟩|⟨k,c,e,z⟩
    ·refine .inl ⟨k,?_⟩
     have:y≠x:=fun e=>hj (uS hN e1 (e ▸ hi))
     simp [this,e]
    ·exact .inr ⟨k,c,e,z.sameBut hs (GN y c e)⟩
  ·obtain⟨w',z⟩:=I.cell y c e
   exact⟨w',z.sameBut hs (GN y c e)⟩
  ·obtain⟨e,n,ne,nf,d⟩:=I.pin p hp
   exact⟨(hs.2 p.1 ne).trans e,n,ne,nf,d⟩
 ·have GO:X.fn x=true:=by
   rcases hf with z|z
   ·exact z
   ·rw [z] at hk;cases hk
  obtain⟨c,hc⟩:=I.ok.has x (.inl hk)
  obtain⟨w',z⟩:=I.cell x c hc
  refine wpAny_storeName_cell I.ok.kind hk hc z (fun h' hc' hs=>?_)
  obtain⟨oc,hoc,VT⟩:=id z
  refine h { s with heap:=h' } ⟨I.ok,I.os,I.bare,⟨fun b o e n hb hx=>?_,fun b o e n hb hx=>?_,I.base.free,fun b o e hx=>?_,I.base.lj,I.base.ju,I.base.lq⟩,⟨m,hn.sameBut hs (ack (GN x c hc)),fun j y v' e1 e2 e3=>?_⟩,fun y c' e=>?_,I.free,I.gG,fun p hp=>?_,tracked ⟨oc,hoc,I.gG x c hc⟩ hs,by simpa using I.len⟩ ⟨c,hs,.inr hc⟩
  ·exact(hs.2 b (abd (aaY (aaV e) (I.ok.OC x c GO hc)))).trans (I.base.keep b o e n hb hx)
  ·obtain⟨sl,e1⟩:=I.base.slot b o e n hb hx
   exact⟨sl,(hs.2 b (abd (aaY (aaV e) (I.ok.OC x c GO hc)))).trans e1⟩
  ·obtain⟨o',e1⟩:=I.base.there b o e hx
   exact⟨o',(hs.2 b (abd (aaY (aaV e) (I.ok.OC x c GO hc)))).trans e1⟩
  ·by_cases hj:j=i
   ·subst hj
    rw [hi] at e1;cases e1
    rw [ach UI] at e2
    cases e2
    exact⟨u,r,.inr ⟨.inl hk,c,hc,hc'⟩⟩
   ·rw [ac5 (ack hj)] at e2
    obtain⟨u',r',q⟩:=hl j y v' e1 e2 e3
    refine⟨u',r',?_⟩
    rcases q with q|⟨k,c',e,z'⟩
    ·exact .inl q
    ·refine .inr ⟨k,c',e,z'.sameBut hs ?_⟩
     rintro rfl
     exact hj (uS hN e1 (I.ok.inj _ _ _ e hc ▸ hi))
  ·by_cases hcc:c'=c
   ·subst hcc;exact⟨_,hc'⟩
   ·obtain⟨w2,z2⟩:=I.cell y c' e
    exact⟨w2,z2.sameBut hs hcc⟩
  ·obtain⟨e,n,ne,nf,d⟩:=I.pin p hp
   refine⟨(hs.2 p.1 ?_).trans e,n,ne,nf,d⟩
   intro q
   rw [q,hoc] at e
   have q':oc=p.2:=aa7 e
   exact d w' (by rw [← q'];exact VT)
theorem lA {M:Model} {A:abi} {E:aai→aan→Prop} {i:Nat} {x:Str} {v:V} {u:aai} {Q:Unit→aan→Prop} (I:Inv X pins σ H s) (hN:X.N.Nodup) (hi:X.N[i]?=some x) (hx:Loc X.env.scope x) (r:RelV v u)
  (h:∀s',Inv X pins (σ.set i (some v)) H s'→Q () s') (hf:X.fn x=true∨X.env.scope.names.lookup x=some .local:=by first|exact .inl rfl|exact .inr rfl|assumption):aa8 M A (storeName X.env x u) Q E s :=
 yC I hN hi hx r (fun s' I' _=>h s' I') hf
theorem Inv.Rp {s':aan} {ch:List aaB} (I:Inv X pins σ H s) (ho:s'.os=s.os) (u:Un (g9 X.stack) ch H H' s.heap s'.heap) (hok:ly X.prog X.w H' s'.heap) (hg:AllBare s'.gens)
  (Ll:∀b∈ch,(b∈X.ex∨X.s₀.heap.objs.size≤b)∧b≠X.env.locals∧(∀x c,X.env.cells.lookup x=some c→c≠b)∧∀p∈X.pn++pins,p.1≠b):Inv X pins σ H' s':=by
 obtain⟨h',g',d',t',o'⟩:=s'
 have e:o'=s.os:=ho
 subst e
 exact I.call (g':=g') (t':=t') (d':=d') u hok hg Ll
end
abbrev XK:=aai→Option aaB→Hp→Prop
abbrev St:=List (Option V)
abbrev VK:=V→Hp→Prop
abbrev TE:=St→Hp→VK→Prop
abbrev TT:=St→Hp→(Bool→Hp→Prop)→Prop
abbrev TA:=St→Hp→(List V→Hp→Prop)→Prop
structure Ends where
 nx:St→Hp→Prop
 rt:VK
 bk:St→Hp→Prop:=fun _ _=>False
 ct:St→Hp→Prop:=fun _ _=>False
abbrev TS:=Ends→St→Hp→Prop
def EP (X:Cx) (pins:List (aaB × Obj)) (σ:St) (Q:VK) (u:aai) (s':aan):Prop:=∃v H',Inv X pins σ H' s'∧RelV v u∧Q v H'
def TP (X:Cx) (pins:List (aaB × Obj)) (σ:St) (Q:Bool→Hp→Prop) (b:Bool) (s':aan):Prop:=∃H',Inv X pins σ H' s'∧Q b H'
def AP (X:Cx) (pins:List (aaB × Obj)) (σ:St) (Q:List V→Hp→Prop) (us:List aai) (s':aan):Prop:=∃vs H',Inv X pins σ H' s'∧Vals vs us∧Q vs H'
def SP (X:Cx) (pins:List (aaB × Obj)) (D:Ends) (f:Flow) (s':aan):Prop :=
 match f with
 | .next=>∃σ' H',Inv X pins σ' H' s'∧D.nx σ' H'
 | .brk=>∃σ' H',Inv X pins σ' H' s'∧D.bk σ' H'
 | .cont=>∃σ' H',Inv X pins σ' H' s'∧D.ct σ' H'
 | .ret u=>∃v σ' H',Inv X pins σ' H' s'∧RelV v u∧D.rt v H'
def PE (X:Cx) (e:Expr) (t:TE):Prop :=
 ∀(pins:List (aaB × Obj)) (s:aan) (σ:St) (H:Hp) (Q:VK),Inv X pins σ H s→t σ H Q→aa8 (model X.prog X.w) X.A (eval e X.env) (EP X pins σ Q) X.xe s
def PT (X:Cx) (e:Expr) (t:TT):Prop :=
 ∀(pins:List (aaB × Obj)) (s:aan) (σ:St) (H:Hp) (Q:Bool→Hp→Prop),Inv X pins σ H s→t σ H Q→aa8 (model X.prog X.w) X.A (isTrue e X.env (eval e X.env)) (TP X pins σ Q) X.xe s
def PW (X:Cx) (e:Expr) (t:TT):Prop :=
 ∀(whole:Sem aai) (pins:List (aaB × Obj)) (s:aan) (σ:St) (H:Hp) (Q:Bool→Hp→Prop),Inv X pins σ H s→t σ H Q→aa8 (model X.prog X.w) X.A (isTrue e X.env whole) (TP X pins σ Q) X.xe s
theorem PW.pt {X:Cx} {e:Expr} {t:TT} (h:PW X e t):PT X e t:=h _
def PA (X:Cx) (es:List Expr) (t:TA):Prop :=
 ∀(pos:Pos) (pins:List (aaB × Obj)) (s:aan) (σ:St) (H:Hp) (Q:List V→Hp→Prop),Inv X pins σ H s→t σ H Q→aa8 (model X.prog X.w) X.A (spliced (backTo pos (starEach es X.env))) (AP X pins σ Q) X.xe s
def PS (X:Cx) (st:Stmt) (t:TS):Prop :=
 ∀(pins:List (aaB × Obj)) (s:aan) (σ:St) (H:Hp) (D:Ends),Inv X pins σ H s→t D σ H→aa8 (model X.prog X.w) X.A (exec st X.env) (SP X pins D) X.xe s
def Cf (X:Cx) (st:List Stmt) (t:TS):Prop :=
 ∀(pins:List (aaB × Obj)) (s:aan) (σ:St) (H:Hp) (D:Ends),Inv X pins σ H s→t D σ H→aa8 (model X.prog X.w) X.A (execs st X.env) (SP X pins D) X.xe s
theorem thn {α:Type} {t:Sem α} {Q Q':α→aan→Prop} {M:Model} {A:abi} {E:aai→aan→Prop} {s:aan} (h:aa8 M A t Q E s) (hQ:∀a s,Q a s→Q' a s):aa8 M A t Q' E s:=wpAny_mono h hQ fun _ _ x=>x
end L2
namespace L2
open PySem PySem.Spec PyProof.Rows
section
variable {X:Cx}
theorem bin {a b:Expr} {ta tb:TE} (ha:PE X a ta) (hb:PE X b tb) {pins:List (aaB × Obj)} {s:aan} {σ:St} {H:Hp} {R:V→V→Hp→Prop} (I:Inv X pins σ H s) (h:ta σ H fun x H1=>tb σ H1 fun y H2=>R x y H2)
  {α:Type} {Q:α→aan→Prop} {f:aai→aai→Sem α}
  (hf:∀v u s2 x y H2,Inv X pins σ H2 s2→RelV x v→RelV y u→R x y H2→aa8 (model X.prog X.w) X.A (f v u) Q X.xe s2) :
  aa8 (model X.prog X.w) X.A (eval a X.env) (fun v s₁=>aa8 (model X.prog X.w) X.A (eval b X.env) (fun u s₂=>aa8 (model X.prog X.w) X.A (f v u) Q X.xe s₂) X.xe s₁) X.xe s:=by
 refine thn (ha pins s σ H _ I h) fun v s1 ⟨x,H1,I1,r1,q1⟩=>?_
 refine thn (hb pins s1 σ H1 _ I1 q1) fun u s2 ⟨y,H2,I2,r2,q2⟩=>?_
 exact hf v u s2 x y H2 I2 r1 r2 q2
def Rq (i:Nat):TE:=fun σ H Q=>∃v,σ[i]?=some (some v)∧Q v H
def tC (v:V):TE:=fun _ H Q=>Q v H
theorem OD {i:Nat} {x:Str} {pos:Pos} (hN:X.N[i]?=some x) (hv:UG X.env.scope x) (hd:(x == ("__debug__":Str))=false:=by decide) (hcd:(x == ("__classdict__":Str))=false:=by decide):PE X (.Name x pos) (Rq i):=by
 intro pins s σ H Q I h
 obtain⟨v,e,h⟩:=h
 obtain⟨m,hn,hl⟩:=I.loc
 obtain⟨u,r,l⟩:=hl i x v hN e hv
 have fin:EP X pins σ Q u s:=⟨v,H,I,r,h⟩
 rcases l with⟨hk,hm⟩|⟨hk,c,hc,hcell⟩
 ·exact wpAny_Name (wpAny_loadName_local I.ok.kind hk hn hm fin) hd
 ·rcases hk with hk|hk
  ·exact wpAny_Name (wpAny_loadName_cell I.ok.kind hk hc hcell fin) hd
  ·exact wpAny_Name (wpAny_loadName_free I.ok.kind hk hc hcell fin hcd) hd
theorem af {i j pos}:PE X (.Constant (.int i) j pos) (tC (.int i)):=fun _ _ _ H _ I h=>wpAny_Constant_int ⟨.int i,H,I.tok _,⟨_,rfl⟩,h⟩
theorem d7 {b j pos}:PE X (.Constant (.bool b) j pos) (tC (.bl b)):=fun _ _ _ H _ I h=>Constant_bool ⟨.bl b,H,I,rfl,h⟩
theorem OE {j pos}:PE X (.Constant .none j pos) (tC .cB):=fun _ _ _ H _ I h=>Constant_none ⟨.cB,H,I,rfl,h⟩
theorem aF {x j pos}:PE X (.Constant (.str x) j pos) (tC (.str x)):=fun _ _ _ H _ I h=>adv ⟨.str x,H,I.tok _,⟨_,rfl⟩,h⟩
def Gl (X:Cx) (x:Str):Prop:=X.env.kindOf x=some .globalImplicit
theorem m3 {E:aai→aan→Prop} {pins:List (aaB × Obj)} {s:aan} {σ:St} {H:Hp} {x:Str} {u:aai} {pos:Pos} {Q:aai→aan→Prop} (I:Inv X pins σ H s) (hg:Gl X x) (hm:X.mg x=some u) (h:Q u s)
  (hd:(x == ("__debug__":Str))=false:=by decide):aa8 (model X.prog X.w) X.A (eval (.Name x pos) X.env) Q E s :=
 adm I.ok.kind hg (Calls.loadGlobal_global (by rw [I.ok.glob];exact I.mod.glob.keeps I.bk) hm h) hd
theorem zJ {E:aai→aan→Prop} {pins:List (aaB × Obj)} {s:aan} {σ:St} {H:Hp} {x:Str} {u:aai} {pos:Pos} {Q:aai→aan→Prop} (I:Inv X pins σ H s) (hg:Gl X x) (hm:X.mg x=none) (hv:bootBuiltins x=some u) (h:Q u s)
  (hn:x≠"__name__":=by decide) (hd:(x == ("__debug__":Str))=false:=by decide):aa8 (model X.prog X.w) X.A (eval (.Name x pos) X.env) Q E s:=by
 obtain⟨mb,h1,h2⟩:=I.mod.blt
 exact adm I.ok.kind hg (Calls.loadGlobal_builtin (by rw [I.ok.glob];exact I.mod.glob.keeps I.bk) hm (by rw [I.ok.blt];exact h1.keeps I.bk) ((h2 x hn).trans hv) h) hd
theorem cU {x:Str} {v:V} {u:aai} {pos:Pos} (hg:Gl X x) (hm:X.mg x=some u) (r:RelV v u) (hd:(x == ("__debug__":Str))=false:=by decide):PE X (.Name x pos) (tC v) :=
 fun _ _ _ H _ I h=>m3 I hg hm ⟨v,H,I,r,h⟩ hd
theorem LF {x:Str} {v:V} {u:aai} {pos:Pos} (hg:Gl X x) (hm:X.mg x=none) (hv:bootBuiltins x=some u) (r:RelV v u) (hn:x≠"__name__":=by decide) (hd:(x == ("__debug__":Str))=false:=by decide):PE X (.Name x pos) (tC v) :=
 fun _ _ _ H _ I h=>zJ I hg hm hv ⟨v,H,I,r,h⟩ hn hd
variable {a b:Expr} {ta tb:TE} {pos:Pos}
def PC (X:Cx) (op:CmpOp) (a b:Expr) (t:TE):Prop :=
 ∀(pins:List (aaB × Obj)) (s:aan) (σ:St) (H:Hp) (Q:VK),Inv X pins σ H s→t σ H Q →
  aa8 (model X.prog X.w) X.A (eval a X.env) (fun v s₁=>aa8 (model X.prog X.w) X.A (eval b X.env) (fun u s₂=>aa8 (model X.prog X.w) X.A (compareOp op v u) (EP X pins σ Q) X.xe s₂) X.xe s₁) X.xe s
theorem IB (b:Expr) {op:CmpOp} (h:op≠.In) (h2:op≠.NotIn):behindInMarks op b=false:=by
 have e1:(op == CmpOp.In)=false:=by cases op <;> first|rfl|exact absurd rfl h
 have e2:(op == CmpOp.NotIn)=false:=by cases op <;> first|rfl|exact absurd rfl h2
 cases b <;> simp [behindInMarks,e1,e2]
def tB (t:TE):TT:=fun σ H Q=>t σ H fun x H1=>∃c,x=.bl c∧Q c H1
theorem Ei {op:CmpOp} {t:TE} (h:PC X op a b t) (h1:behindInMarks op b=false:=by first|exact IB _ (by decide) (by decide)|rfl):PT X (.Compare a [op] [b] pos) (tB t):=by
 intro pins s σ H Q I hw
 refine wpAny_isTrue_Compare1 (thn (h pins s σ H _ I hw) fun v s1 h1=>thn h1 fun u s2 h2=>thn h2 fun c s3 ⟨x,H1,I1,r1,q1⟩=>?_) h1
 obtain⟨d,rfl,q⟩:=q1
 cases r1
 exact wpAny_truthy_bool ⟨H1,I1,q⟩
theorem cW {e:Expr} {t:TE} (h:PE X e t) (he:∀whole,isTrue e X.env whole=(do let v ← whole;standAt e.pos;holding [v] (truthy v)):=by intro _;rfl):PT X e (tB t):=by
 intro pins s σ H Q I hw
 refine isTrue_plain (thn (h pins s σ H _ I hw) fun v s1 ⟨x,H1,I1,r1,q1⟩=>?_) (he _)
 obtain⟨d,rfl,q⟩:=q1
 cases r1
 exact wpAny_truthy_bool ⟨H1,I1,q⟩
variable {tA UJ:TT} {rest:List Expr}
def VU (t u:TT):TT:=fun σ H Q=>t σ H fun c H1=>if c=true then u σ H1 Q else Q false H1
def tOr (t u:TT):TT:=fun σ H Q=>t σ H fun c H1=>if c=true then Q true H1 else u σ H1 Q
def VV (t:TT):TT:=fun σ H Q=>t σ H fun c H1=>Q (!c) H1
theorem hV (ha:PT X a tA):PW X (.BoolOp .And [a] pos) tA:=by
 intro wh pins s σ H Q I h
 refine isTrue_and (thn (ha pins s σ H Q I h) fun c s1 e=>?_)
 cases c with
 | true=>exact isTrue_and_nil e
 | false=>exact e
theorem zK (ha:PT X a tA):PW X (.BoolOp .Or [a] pos) tA:=by
 intro wh pins s σ H Q I h
 refine isTrue_or (thn (ha pins s σ H Q I h) fun c s1 e=>?_)
 cases c with
 | false=>exact isTrue_or_nil e
 | true=>exact e
theorem lB (ha:PT X a tA) (hb:PW X (.BoolOp .And (b::rest) pos) UJ):PW X (.BoolOp .And (a::b::rest) pos) (VU tA UJ):=by
 intro wh pins s σ H Q I h
 refine isTrue_and (thn (ha pins s σ H _ I h) fun c s1 ⟨H1,I1,q1⟩=>?_)
 cases c with
 | true=>exact hb wh pins s1 σ H1 Q I1 q1
 | false=>exact⟨H1,I1,q1⟩
theorem yD (ha:PT X a tA) (hb:PW X (.BoolOp .Or (b::rest) pos) UJ):PW X (.BoolOp .Or (a::b::rest) pos) (tOr tA UJ):=by
 intro wh pins s σ H Q I h
 refine isTrue_or (thn (ha pins s σ H _ I h) fun c s1 ⟨H1,I1,q1⟩=>?_)
 cases c with
 | true=>exact⟨H1,I1,q1⟩
 | false=>exact hb wh pins s1 σ H1 Q I1 q1
theorem jv (ha:PT X a tA):PT X (.UnaryOp .Not a pos) (VV tA):=by
 intro pins s σ H Q I h
 exact isTrue_not (ha pins s σ H (fun c H1=>Q (!c) H1) I h)
def Rr (ta tb:TE):TE:=fun σ H Q=>ta σ H fun x H1=>∃c,x=.bl c∧if c=true then tb σ H1 Q else Q (.bl false) H1
def VW (ta tb:TE):TE:=fun σ H Q=>ta σ H fun x H1=>∃c,x=.bl c∧if c=true then Q (.bl true) H1 else tb σ H1 Q
theorem uT {op} {t:TE} (h:PE X a t):PE X (.BoolOp op [a] pos) t:=fun pins s σ H Q I hw=>BoolOp_one (h pins s σ H Q I hw)
theorem zL (ha:PE X a ta) (hb:PE X (.BoolOp .And (b::rest) pos) tb):PE X (.BoolOp .And (a::b::rest) pos) (Rr ta tb):=by
 intro pins s σ H Q I h
 refine BoolOp_and (thn (ha pins s σ H _ I h) fun v s1 ⟨x,H1,I1,r1,q1⟩=>?_)
 obtain⟨c,rfl,q1⟩:=q1
 cases r1
 refine wpAny_truthy_bool ?_
 cases c with
 | true=>exact hb pins s1 σ H1 Q I1 q1
 | false=>exact⟨.bl false,H1,I1,rfl,q1⟩
theorem NA (ha:PE X a ta) (hb:PE X (.BoolOp .Or (b::rest) pos) tb):PE X (.BoolOp .Or (a::b::rest) pos) (VW ta tb):=by
 intro pins s σ H Q I h
 refine BoolOp_or (thn (ha pins s σ H _ I h) fun v s1 ⟨x,H1,I1,r1,q1⟩=>?_)
 obtain⟨c,rfl,q1⟩:=q1
 cases r1
 refine wpAny_truthy_bool ?_
 cases c with
 | false=>exact hb pins s1 σ H1 Q I1 q1
 | true=>exact⟨.bl true,H1,I1,rfl,q1⟩
def tIf (t:TT) (ta tb:TE):TE:=fun σ H Q=>t σ H fun c H1=>if c=true then ta σ H1 Q else tb σ H1 Q
theorem IC {c:Expr} (hc:PT X c tA) (ha:PE X a ta) (hb:PE X b tb):PE X (.IfExp c a b pos) (tIf tA ta tb):=by
 intro pins s σ H Q I h
 refine wpAny_IfExp (thn (hc pins s σ H _ I h) fun d s1 ⟨H1,I1,q1⟩=>?_)
 cases d with
 | true=>exact ha pins s1 σ H1 Q I1 q1
 | false=>exact hb pins s1 σ H1 Q I1 q1
end
end L2
namespace L2
open PySem PySem.Spec PyProof.Rows
def aL (K:aae) (H:Hp) (a:aaB) (xs:List V):Prop :=
 Rd H a (.lst xs) ∨
  ∃(o:Obj) (its:Array aai) (n:Nat),K.lookup a=some o∧o.cls=.type "list"∧o.dict=none∧o.data=.seq its n∧its.size≤aaj∧xs.all V.pl=true∧Vals xs its.toList
def bT (K:aae) (H:Hp) (a:aaB) (xs:List V):Prop :=
 Rd H a (.tup xs) ∨
  ∃(o:Obj) (its:Array aai) (n:Nat),K.lookup a=some o∧o.cls=.type "tuple"∧o.data=.seq its n∧its.size≤aaj∧xs.all V.pl=true∧Vals xs its.toList
def VX:aai→Option V
 | .none=>some .cB
 | .bool b=>some (.bl b)
 | .int i _=>some (.int i)
 | .str x _=>some (.str x)
 | .bytes b _=>some (.Io b)
 | .float b _=>some (.UC b)
 | .ref a=>some (.ref a)
 | .type n=>some (.ty n)
 | _=>none
theorem RelV.abs {x:V} {u:aai} (r:RelV x u) (hp:x.pl=true):VX u=some x:=by
 cases x with
 | tok _ _=>cases hp
 | cB=>cases r;rfl
 | bl _=>cases r;rfl
 | int _=>obtain⟨t,rfl⟩:=r;rfl
 | str _=>obtain⟨t,rfl⟩:=r;rfl
 | Io _=>obtain⟨t,rfl⟩:=r;rfl
 | UC _=>obtain⟨t,rfl⟩:=r;rfl
 | ref _=>cases r;rfl
 | ty _=>cases r;rfl
theorem RelV.inj {x y:V} {u:aai} (r:RelV x u) (q:RelV y u) (hx:x.pl=true) (hy:y.pl=true):x=y:=aa7 ((r.abs hx).symm.trans (q.abs hy))
theorem Vals.inj:∀{xs ys:List V} {us:List aai},Vals xs us→Vals ys us→xs.all V.pl=true→ys.all V.pl=true→xs=ys
 | _,_,_,.nil,.nil,_,_=>rfl
 | _,_,_,.cons r t,.cons r' t',h,h'=>by
  rw [abl,aaW] at h h'
  rw [r.inj r' h.1 h'.1,Vals.inj t t' h.2 h'.2]
section
variable {X:Cx} {pins:List (aaB × Obj)} {σ:St} {H:Hp} {s:aan} {a:aaB} {xs ys:List V}
theorem aL.of {K:aae} (h:H a=some (.lst xs)):aL K H a xs:=.inl (.inl h)
theorem bT.of {K:aae} (h:H a=some (.tup xs)):bT K H a xs:=.inl (.inl h)
theorem Inv.list (I:Inv X pins σ H s) (h:aL X.K H a xs):∃its:List aai,Vals xs its∧PlainL s.heap a its.toArray∧xs.length≤aaj:=by
 rcases h with h|⟨o,its,n,hk,hc,hd,hs,hz,_,r⟩
 ·obtain⟨z,its,n,r,e⟩:=h.ok I.hok
  exact⟨its,r,⟨_,n,e,rfl,rfl,rfl⟩,z⟩
 ·refine⟨its.toList,r,⟨o,n,I.zG a o hk,hc,hd,by simpa using hs⟩,?_⟩
  have e:=r.length
  simp only [acz] at e
  omega
theorem Inv.tuple (I:Inv X pins σ H s) (h:bT X.K H a xs):∃its:List aai,Vals xs its∧IsTup s.heap a its.toArray∧xs.length≤aaj:=by
 rcases h with h|⟨o,its,n,hk,hc,hs,hz,_,r⟩
 ·obtain⟨z,its,r,p⟩:=h.ok I.hok
  exact⟨its,r,p,z⟩
 ·refine⟨its.toList,r,⟨o,I.zG a o hk,hc,n,by simpa using hs⟩,?_⟩
  have e:=r.length
  simp only [acz] at e
  omega
theorem Rd.none {u:HO} (h:Rd H a u) (z:H a=aep):False:=by
 rcases h with h|⟨o,h⟩
 ·rw [z] at h;cases h
 ·rw [z] at h;cases h
theorem Inv.kH (I:Inv X pins σ H s) {o:Obj} (h:X.K.lookup a=some o):H a=aep:=(I.bs a o (I.ok.mod.Ny a o h)).2
theorem Inv.ID (I:Inv X pins σ H s) (h:aL X.K H a xs) (h':aL X.K H a ys):xs=ys:=by
 rcases h with h|⟨o,its,n,hk,hc,hd,hs,hz,hp,r⟩ <;> rcases h' with h'|⟨o',its',n',hk',hc',hd',hs',hz',hp',r'⟩
 ·rcases h with h|⟨o,h⟩ <;> rcases h' with h'|⟨o',h'⟩ <;> rw [h] at h' <;> cases h' <;> rfl
 ·exact(h.none (I.kH hk')).elim
 ·exact(h'.none (I.kH hk)).elim
 ·rw [hk] at hk';cases hk'
  rw [hs] at hs'
  injection hs' with d1 _
  subst d1
  exact r.inj r' hp hp'
theorem Inv.rL (I:Inv X pins σ H s) (h:bT X.K H a xs) (h':bT X.K H a ys):xs=ys:=by
 rcases h with h|⟨o,its,n,hk,hc,hs,hz,hp,r⟩ <;> rcases h' with h'|⟨o',its',n',hk',hc',hs',hz',hp',r'⟩
 ·rcases h with h|⟨o,h⟩ <;> rcases h' with h'|⟨o',h'⟩ <;> rw [h] at h' <;> cases h' <;> rfl
 ·exact(h.none (I.kH hk')).elim
 ·exact(h'.none (I.kH hk)).elim
 ·rw [hk] at hk';cases hk'
  rw [hs] at hs'
  injection hs' with d1 _
  subst d1
  exact r.inj r' hp hp'
end
abbrev Cx.xk (X:Cx) (E:aai→aan→Prop):Cx:={ X with xe:=E }
abbrev Cx.UK (X:Cx):Cx:=X.xk fun _ _=>False
theorem Cx.Ok.xk {X:Cx} (ok:X.Ok) (E:aai→aan→Prop):(X.xk E).Ok :=
 ⟨ok.mod,ok.kind,ok.glob,ok.blt,ok.above,ok.inj,ok.has,ok.OC,ok.hd,ok.frames,ok.QK,ok.VN,ok.bs,ok.Lj,ok.GL,ok.IA,ok.pG,ok.Nz⟩
theorem Cx.Ok.lC {X:Cx} {E:aai→aan→Prop} (ok:(X.xk E).Ok):X.Ok :=
 ⟨ok.mod,ok.kind,ok.glob,ok.blt,ok.above,ok.inj,ok.has,ok.OC,ok.hd,ok.frames,ok.QK,ok.VN,ok.bs,ok.Lj,ok.GL,ok.IA,ok.pG,ok.Nz⟩
section
variable {X:Cx} {pins:List (aaB × Obj)} {σ:St} {H:Hp} {s:aan} {E:aai→aan→Prop}
theorem Inv.xk (I:Inv X pins σ H s) (E:aai→aan→Prop):Inv (X.xk E) pins σ H s:=⟨I.ok.xk E,I.os,I.bare,I.base,I.loc,I.cell,I.free,I.gG,I.pin,I.hok,I.len⟩
theorem Inv.lC (I:Inv (X.xk E) pins σ H s):Inv X pins σ H s:=⟨I.ok.lC,I.os,I.bare,I.base,I.loc,I.cell,I.free,I.gG,I.pin,I.hok,I.len⟩
theorem SP.lC {D:Ends} {f:Flow} {s':aan} (h:SP (X.xk E) pins D f s'):SP X pins D f s':=by
 cases f with
 | next=>obtain⟨σ',H',I,q⟩:=h;exact⟨σ',H',I.lC,q⟩
 | brk=>obtain⟨σ',H',I,q⟩:=h;exact⟨σ',H',I.lC,q⟩
 | cont=>obtain⟨σ',H',I,q⟩:=h;exact⟨σ',H',I.lC,q⟩
 | ret u=>obtain⟨v,σ',H',I,r,q⟩:=h;exact⟨v,σ',H',I.lC,r,q⟩
theorem Cf.UK {st:List Stmt} {t:TS} (h:Cf X.UK st t):Cf X st t:=fun pins s σ H D I hw =>
 wpAny_mono (h pins s σ H D (I.xk _) hw) (fun _ _ q=>q.lC) fun _ _ z=>abH z
end
section
variable {X:Cx} {st:Stmt} {rest:List Stmt} {t u:TS} {e:Expr} {te:TE} {pos:Pos}
def Rt:TS:=fun D σ H=>D.nx σ H
def Ru (t u:TS):TS:=fun D σ H=>t { D with nx:=u D } σ H
theorem aI:Cf X [] Rt:=fun _ _ σ H _ I h=>wpAny_execs_nil ⟨σ,H,I,h⟩
theorem ah (h1:PS X st t) (h2:Cf X rest u):Cf X (st::rest) (Ru t u):=by
 intro pins s σ H D I h
 refine wpAny_execs_cons (thn (h1 pins s σ H { D with nx:=u D } I h) fun f s1 q=>?_)
 cases f with
 | next =>
  obtain⟨σ',H',I',q⟩:=q
  exact h2 pins s1 σ' H' D I' q
 | ret v=>exact q
 | brk=>exact q
 | cont=>exact q
theorem ak (h1:PS X st t):Cf X [st] t:=by
 intro pins s σ H D I h
 refine wpAny_execs_cons (thn (h1 pins s σ H D I h) fun f s1 q=>?_)
 cases f with
 | next=>exact wpAny_execs_nil q
 | ret v=>exact q
 | brk=>exact q
 | cont=>exact q
def Rv:TS:=fun D σ H=>D.ct σ H
theorem Cg:PS X (.Continue pos) Rv:=fun _ _ σ H _ I h=>wpAny_Continue ⟨σ,H,I,h⟩
theorem Inv.quiet {pins:List (aaB × Obj)} {σ:St} {H:Hp} {s:aan} (I:Inv X pins σ H s):interactive X.env=false:=by simp [interactive,I.ok.kind]
def Rw (te:TE):TS:=fun D σ H=>te σ H fun _ H1=>D.nx σ H1
theorem bh (he:PE X e te) (hs:swapsWith e none pos.line X.env=pure false:=by rfl):PS X (.Expr e pos) (Rw te):=by
 intro pins s σ H D I h
 exact wpAny_Expr_any (thn (he pins s σ H _ I h) fun v s1 ⟨x,H1,I1,r1,q1⟩=>⟨σ,H1,I1,q1⟩) I.quiet hs
def VY (te:TE):TS:=fun D σ H=>te σ H D.rt
theorem aG (he:PE X e te):PS X (.Return (some e) pos) (VY te):=by
 intro pins s σ H D I h
 exact wpAny_Return_some (thn (he pins s σ H _ I h) fun v s1 ⟨x,H1,I1,r1,q1⟩=>⟨x,σ,H1,I1,r1,q1⟩)
def Rx:TS:=fun D _ H=>D.rt .cB H
theorem LG:PS X (.Return none pos) Rx:=fun _ _ σ H _ I h=>wpAny_Return_none ⟨.cB,σ,H,I,rfl,h⟩
def VZ (c:TT) (t u:TS):TS:=fun D σ H=>c σ H fun b H1=>if b=true then t D σ H1 else u D σ H1
theorem aX {c:Expr} {a b:List Stmt} {tc:TT} (hc:PT X c tc) (ha:Cf X a t) (hb:Cf X b u):PS X (.If c a b pos) (VZ tc t u):=by
 intro pins s σ H D I h
 refine wpAny_If (thn (hc pins s σ H _ I h) fun d s1 ⟨H1,I1,q1⟩=>?_)
 cases d with
 | true=>exact ha pins s1 σ H1 D I1 q1
 | false=>exact hb pins s1 σ H1 D I1 q1
def IE:TS:=fun _ _ _=>False
theorem IF:PS X st IE:=fun _ _ _ _ _ _ h=>h.elim
theorem cj {sts:List Stmt}:Cf X sts IE:=fun _ _ _ _ _ _ h=>h.elim
end
abbrev TG:=V→St→Hp→(St→Hp→Prop)→Prop
def PG (X:Cx) (target:Expr) (t:TG):Prop :=
 ∀(pins:List (aaB × Obj)) (s:aan) (σ:St) (H:Hp) (v:V) (u:aai) (Q:St→Hp→Prop),Inv X pins σ H s→RelV v u→t v σ H Q →
  aa8 (model X.prog X.w) X.A (assign target X.env u) (fun _ s'=>∃σ' H',Inv X pins σ' H' s'∧Q σ' H') X.xe s
abbrev OG:=V→V→V→Hp→(Hp→Prop)→Prop
def Ry (X:Cx) (t:OG):Prop :=
 ∀(pins:List (aaB × Obj)) (s:aan) (σ:St) (H:Hp) (o i v:V) (ov iv u:aai) (Q:Hp→Prop),Inv X pins σ H s→RelV o ov→RelV i iv→RelV v u→t o i v H Q →
  aa8 (model X.prog X.w) X.A (setItem ov iv u) (fun _ s'=>∃H',Inv X pins σ H' s'∧Q H') X.xe s
abbrev UL:=V→V→Hp→VK→Prop
def PIp (X:Cx) (op:Operator) (t:UL):Prop :=
 ∀(pins:List (aaB × Obj)) (s:aan) (σ:St) (H:Hp) (x y:V) (v u:aai) (Q:VK),Inv X pins σ H s→RelV x v→RelV y u→t x y H Q →
  aa8 (model X.prog X.w) X.A (inplaceOp op v u) (EP X pins σ Q) X.xe s
section
variable {X:Cx} {pos:Pos}
def yE (i:Nat):TG:=fun v σ H Q=>Q (σ.set i (some v)) H
theorem bw {i:Nat} {x:Str} (hN:X.N.Nodup) (hi:X.N[i]?=some x) (hx:Loc X.env.scope x) (hf:X.fn x=true∨X.env.scope.names.lookup x=some .local:=by first|exact .inl rfl|exact .inr rfl|assumption):PG X (.Name x pos) (yE i):=by
 intro pins s σ H v u Q I r h
 exact wpAny_assign_Name (lA I hN hi hx r (fun s' I'=>⟨_,H,I',h⟩) hf)
def V0 (to ti:TE) (t:OG):TG:=fun v σ H Q=>to σ H fun o H1=>ti σ H1 fun i H2=>t o i v H2 fun H3=>Q σ H3
theorem IG {o i:Expr} {to ti:TE} {t:OG} (ho:PE X o to) (hi:PE X i ti) (hs:Ry X t)
  (ha:∀v,assign (.Subscript o i pos) X.env v=(do
   let ov ← holding [v] (eval o X.env)
   let iv ← holding [v,ov] (eval i X.env)
   standAt pos
   holding [v,ov,iv] (setItem ov iv v)
   release [v,ov,iv] []):=by intro _;rfl):PG X (.Subscript o i pos) (V0 to ti t):=by
 intro pins s σ H v u Q I r h
 rw [ha]
 refine aaw (wpAny_holding (thn (ho pins s σ H _ I h) fun ov s1 ⟨x,H1,I1,r1,q1⟩=>?_))
 refine aaw (wpAny_holding (thn (hi pins s1 σ H1 _ I1 q1) fun iv s2 ⟨y,H2,I2,r2,q2⟩=>?_))
 refine aaw (wpAny_standAt (aaw (wpAny_holding (thn (hs pins s2 σ H2 x y v ov iv u _ I2 r1 r2 r q2) fun _ s3 ⟨H3,I3,q3⟩=>?_))))
 exact wpAny_release ⟨σ,H3,I3,q3⟩
def OH (te:TE) (g:TG):TS:=fun D σ H=>te σ H fun x H1=>g x σ H1 D.nx
theorem IH {tg e:Expr} {te:TE} {g:TG} (he:PE X e te) (hg:PG X tg g) (hs:swapsWithSole [tg] e pos.line X.env=pure false:=by rfl) (hw:swappedStores [tg] e X.env=pure none:=by rfl)
  (h1:(assignEach [tg] X.env).map (·.2)=[assign tg X.env]:=by rfl):PS X (.Assign [tg] e pos) (OH te g):=by
 intro pins s σ H D I h
 refine wpAny_Assign_stores (thn (he pins s σ H _ I h) fun v s1 ⟨x,H1,I1,r1,q1⟩=>?_) hs hw
 rw [h1]
 exact thn (hg pins s1 σ H1 x v _ I1 r1 q1) fun _ s2 q=>q
theorem ay {i:Nat} {x:Str} {e:Expr} {te:TE} {pos':Pos} (hN:X.N.Nodup) (hi:X.N[i]?=some x) (hx:Loc X.env.scope x) (he:PE X e te) (hs:swapsWith e (some (.Name x pos')) pos.line X.env=pure false:=by rfl) (hf:X.fn x=true∨X.env.scope.names.lookup x=some .local:=by first|exact .inl rfl|exact .inr rfl|assumption) :
  PS X (.Assign [.Name x pos'] e pos) (OH te (yE i)):=by
 intro pins s σ H D I h
 refine wpAny_Assign_Name (thn (he pins s σ H _ I h) fun v s1 ⟨y,H1,I1,r1,q1⟩=>?_) hs
 exact lA I1 hN hi hx r1 (fun s2 I2=>⟨_,H1,I2,q1⟩) hf
def V1 (i:Nat) (te:TE) (ti:UL):TS:=fun D σ H=>∃x,σ[i]?=some (some x)∧te σ H fun y H1=>ti x y H1 fun z H2=>D.nx (σ.set i (some z)) H2
theorem zM {i:Nat} {x:Str} {e:Expr} {te:TE} {op:Operator} {ti:UL} {pos':Pos} (hN:X.N.Nodup) (hi:X.N[i]?=some x) (hx:Loc X.env.scope x) (he:PE X e te) (ho:PIp X op ti) (hf:X.fn x=true∨X.env.scope.names.lookup x=some .local:=by first|exact .inl rfl|exact .inr rfl|assumption) :
  PS X (.AugAssign (.Name x pos') op e pos) (V1 i te ti):=by
 intro pins s σ H D I h
 obtain⟨v,e1,h⟩:=h
 obtain⟨m,hn,hl⟩:=I.loc
 have vis:UG X.env.scope x:=by rcases hx with k|k;exact .inl k;exact .inr (.inl k)
 obtain⟨u,r,l⟩:=hl i x v hi e1 vis
 refine wpAny_AugAssign_Name ?_
 have go:aa8 (model X.prog X.w) X.A (eval e X.env) (fun w s₂=>aa8 (model X.prog X.w) X.A (inplaceOp op u w) (fun r s₃=>aa8 (model X.prog X.w) X.A (storeName X.env x r) (fun _=>SP X pins D .next) X.xe s₃) X.xe s₂) X.xe s:=by
  refine thn (he pins s σ H _ I h) fun w s1 ⟨y,H1,I1,r1,q1⟩=>?_
  refine thn (ho pins s1 σ H1 v y u w _ I1 r r1 q1) fun z s2 ⟨zv,H2,I2,r2,q2⟩=>?_
  exact lA I2 hN hi hx r2 (fun s3 I3=>⟨_,H2,I3,q2⟩) hf
 rcases l with⟨hk,hm⟩|⟨hk,c,hc,hcell⟩
 ·exact wpAny_loadName_local I.ok.kind hk hn hm go
 ·rcases hk with hk|hk
  ·exact wpAny_loadName_cell I.ok.kind hk hc hcell go
  ·rcases hx with k|k
   ·have:X.env.scope.names.lookup x=some .free:=hk
    rw [k] at this;cases this
   ·have:X.env.scope.names.lookup x=some .free:=hk
    rw [k] at this;cases this
def ipI (f:Int→Int→Int):UL:=fun x y H Q=>∃i j,x=.int i∧y=.int j∧Q (.int (f i j)) H
theorem zN:PIp X .Add (ipI fun i j=>i+j):=by
 intro pins s σ H x y v u Q I r1 r2 h
 obtain⟨i,j,e1,e2,q⟩:=h
 subst e1;subst e2
 obtain⟨t,rfl⟩:=r1
 obtain⟨t',rfl⟩:=r2
 exact iadd_int ⟨.int _,H,I.tok _,⟨_,rfl⟩,q⟩
end
section
variable {X:Cx} {pos:Pos}
def OI (c:TT) (tb:TS):TS:=fun D σ H=>∃W:Nat→St→Hp→Prop,(∃m,W m σ H)∧∀m σ H,W m σ H →
 c σ H fun b H1=>if b=true then ∃N:St→Hp→Prop,(∀σ' H',N σ' H'→∃m',m'<m∧W m' σ' H')∧tb { D with nx:=N,ct:=N,bk:=D.nx } σ H1 else D.nx σ H1
theorem pH {c:Expr} {body:List Stmt} {tc:TT} {tb:TS} (hp:PassesOwn (model X.prog X.w) X.A X.env X.xe) (hc:PT X c tc) (hb:Cf X body tb):PS X (.While c body [] pos) (OI tc tb):=by
 intro pins s σ H D I h
 obtain⟨W,⟨m0,w0⟩,turn⟩:=h
 refine wpAny_While (codeAny_whileLoop (fun n s'=>∃σ' H',Inv X pins σ' H' s'∧W n σ' H') ?_ m0 ⟨σ,H,I,w0⟩)
 rintro n s1 ⟨σ1,H1,I1,w1⟩
 refine wpAny_passesOwn hp (thn (hc pins s1 σ1 H1 _ I1 (turn n σ1 H1 w1)) fun b s2 ⟨H2,I2,q2⟩=>?_)
 cases b with
 | true =>
  obtain⟨N,hN,q2⟩:=q2
  rw [if_pos rfl]
  refine wpAny_passesOwn hp (thn (hb pins s2 σ1 H2 _ I2 q2) fun f s3 q3=>?_)
  cases f with
  | next =>
   obtain⟨σ3,H3,I3,n3⟩:=q3
   obtain⟨m',hm,w3⟩:=hN σ3 H3 n3
   exact⟨m',hm,σ3,H3,I3,w3⟩
  | cont =>
   obtain⟨σ3,H3,I3,n3⟩:=q3
   obtain⟨m',hm,w3⟩:=hN σ3 H3 n3
   exact⟨m',hm,σ3,H3,I3,w3⟩
  | brk=>exact q3
  | ret v=>exact q3
 | false =>
  rw [if_neg aaJ]
  exact wpAny_execs_nil ⟨σ1,H2,I2,q2⟩
end
structure It where
 go:Nat→Hp→Prop
 OJ:Nat→Hp→V→Hp→Prop
 stop:Nat→Hp→Prop
def xl (X:Cx) (pins:List (aaB × Obj)) (H:Hp) (b:aaB):Prop :=
 H b=none∧b≠X.env.locals∧b∉X.fs∧(b∈X.ex∨X.s₀.heap.objs.size≤b)∧(∀x c,X.env.cells.lookup x=some c→c≠b)∧∀p∈X.pn++pins,p.1≠b
theorem Inv.II {X:Cx} {pins:List (aaB × Obj)} {σ:St} {H H':Hp} {s:aan} {b:aaB} (I:Inv X pins σ H s) (hb:s.heap.objs.size≤b) (hn:H' b=none):xl X pins H' b:=by
 refine⟨hn,Nat.ne_of_gt (aaY I.lt hb),I.VP hb,.inr (abj I.sz hb),fun x c e z=>?_,fun p hp z=>?_⟩
 ·obtain⟨v,q⟩:=I.cell x c e
  exact absurd (aaY q.lt (by rw [z];exact hb)) (acd _)
 ·exact absurd (aaY (aaV (I.pin p hp).1) (by rw [z];exact hb)) (acd _)
structure Turn (P:aaS) (w:abg) (K:aae) (tg:Expr) (J:It) (fp:List aaB) (it:aaB) (tn:Nat→Heap→Prop):Prop where
 mem:it∈fp
 obj:∀i h,tn i h→∀b∈fp,∃o,h.get? b=some o∧∀v,o.data≠.cell v
 keep:∀i h h',tn i h→(∀b∈fp,∀o,h.get? b=some o→h'.get? b=some o)→tn i h'
 item:∀(X:Cx),X.prog=P→X.w=w→X.K=K→X.calm=true→∀(i:Nat) (pins:List (aaB × Obj)) (s:aan) (σ:St) (H:Hp) (E:aai→aan→Prop),Inv X pins σ H s→(∀b∈fp,xl X pins H b)→tn i s.heap→J.go i H →
  aa8 (model P w) X.A (pyNext (.ref it)) (fun r s1=>∃u,r=some u ∧
   aa8 (model P w) X.A (letOwnedTupleGo tg (.ref it) u) (fun _ s2=>∃x H',Inv X pins σ H' s2∧RelV x u∧J.OJ i H x H'∧tn (i+1) s2.heap∧∀b∈fp,H' b=none) E s1) E s
 done:∀(X:Cx),X.prog=P→X.w=w→X.K=K→X.calm=true→∀(i:Nat) (pins:List (aaB × Obj)) (s:aan) (σ:St) (H:Hp) (E:aai→aan→Prop),Inv X pins σ H s→(∀b∈fp,xl X pins H b)→tn i s.heap→J.stop i H →
  aa8 (model P w) X.A (pyNext (.ref it)) (fun r s1=>r=none∧Inv X pins σ H s1) E s
 self:∀(A:abi) (i:Nat) (s:aan) (Q:aai→aan→Prop) (E:aai→aan→Prop),tn i s.heap→Q (.ref it) s→aa8 (model P w) A (pyIter (.ref it)) Q E s
abbrev TI:=St→Hp→(It→Hp→Prop)→Prop
def V2 (X:Cx) (pins:List (aaB × Obj)) (σ:St) (tg:Expr) (R:It→Hp→Prop) (V3:aai) (s2:aan):Prop :=
 ∃(it:aaB) (fp:List aaB) (tn:Nat→Heap→Prop) (J:It) (H':Hp),V3=.ref it∧Inv X pins σ H' s2∧Turn X.prog X.w X.K tg J fp it tn∧tn 0 s2.heap∧(∀b∈fp,xl X pins H' b)∧R J H'
def PI (X:Cx) (tg iter:Expr) (wi:TI):Prop :=
 ∀(pins:List (aaB × Obj)) (s:aan) (σ:St) (H:Hp) (R:It→Hp→Prop),Inv X pins σ H s→wi σ H R →
  aa8 (model X.prog X.w) X.A (eval iter X.env) (fun v s1=>aa8 (model X.prog X.w) X.A (pyIter v) (V2 X pins σ tg R) X.xe s1) X.xe s
theorem Fx {M:Model} {A:abi} {E:aai→aan→Prop} {s:aan} {tg:Expr} {it:aaB} {u:aai} {o:Obj} {n:String} {vs:Array aai} {Q:Unit→aan→Prop} (ho:s.heap.get? it=some o) (hc:o.cls=.type n) (hd:o.data=.fields vs)
    (hn:["enumerate","zip","dict_itemiterator","dict_reverseitemiterator","odict_iterator","itertools.zip_longest","itertools.pairwise"].contains n=false) (hQ:Q () s):aa8 M A (letOwnedTupleGo tg (.ref it) u) Q E s:=by
  unfold letOwnedTupleGo
  cases tg <;> first
    | exact aaX hQ
    | (cases u <;> first
        | exact aaX hQ
        | (refine aaw (wpAny_load ho ?_)
           rw [hc,hd]
           show aa8 M A (if (["enumerate","zip","dict_itemiterator","dict_reverseitemiterator","odict_iterator","itertools.zip_longest","itertools.pairwise"].contains n && vs[0]? == some (rawInt _))=true then _ else _) Q E s
           rw [if_neg (by intro h;rw [hn,Bool.false_and] at h;cases h)]
           exact aaX hQ))
def IJ (K:aae) (a:aaB):It :=
 ⟨fun i H=>∃xs x,aL K H a xs∧xs[i]?=some x,fun i H x H'=>H'=H∧∀xs,aL K H a xs→xs[i]?=some x,fun i H=>∃xs,aL K H a xs∧xs.length≤i⟩
def NB (K:aae) (a:aaB):It :=
 ⟨fun i H=>∃xs x,bT K H a xs∧xs[i]?=some x,fun i H x H'=>H'=H∧∀xs,bT K H a xs→xs[i]?=some x,fun i H=>∃xs,bT K H a xs∧xs.length≤i⟩
def NC (lo:Int) (n:Nat):It:=⟨fun i _=>i<n,fun i H x H'=>H'=H∧x=.int (lo+i),fun i _=>n≤i⟩
theorem GP {P:aaS} {w:abg} {K:aae} {tg:Expr} (a it:aaB):Turn P w K tg (IJ K a) [it] it (fun i h=>h.IsListIter it a i) where
 mem:=by simp
 obj:=fun i h st b hb=>by
  have e:b=it:=by simpa using hb
  subst e
  obtain⟨o,e,c,d⟩:=st
  exact⟨o,e,fun v z=>by rw [d] at z;cases z⟩
 keep:=fun i h h' st k=>st.at fun o e=>k it (by simp) o e
 item:=by
  intro X hP hw hK hc i pins s σ H E I hf st hg
  subst hP hw hK
  obtain⟨xs,x,hq,hx⟩:=hg
  obtain⟨its,rv,p,hz⟩:=I.list hq
  obtain⟨u,hu,ru⟩:=rv.get hx
  obtain⟨f0,f1,f2,f3,f4,f5⟩:=hf it (by simp)
  refine wpAny_pyNext_list_item st p.isList (x:=u) (by simpa using hu) fun h' Fy sb=>?_
  have I1:Inv X pins σ H { s with heap:=h' }:=I.turned (t':=s.toks) (fun b o hb e=>(sb.2 b hb).trans e) f0 f1 f3 f4 f5
  obtain⟨o,e,c,d⟩:=id Fy
  exact⟨u,rfl,Fx (s:={ s with heap:=h' }) e c d (by decide) ⟨x,H,I1,ru,⟨rfl,fun ys hy=>by rw [I.ID hy hq];exact hx⟩,Fy,fun b hb=>(hf b hb).1⟩⟩
 done:=by
  intro X hP hw hK hc i pins s σ H E I hf st hg
  subst hP hw hK
  obtain⟨xs,hq,hx⟩:=hg
  obtain⟨its,rv,p,hz⟩:=I.list hq
  obtain⟨f0,f1,f2,f3,f4,f5⟩:=hf it (by simp)
  have hl:=rv.length
  exact wpAny_pyNext_list_end (I.ok.hd hc) st p.isList (by simp;omega) fun h' eb=>⟨rfl,I.turned (t':=s.toks) (fun b o hb e=>eb b o hb e) f0 f1 f3 f4 f5⟩
 self:=fun _ _ _ _ _ st h=>wpAny_pyIter_listiter st h
theorem Ej {P:aaS} {w:abg} {K:aae} {tg:Expr} (a it:aaB):Turn P w K tg (NB K a) [it] it (fun i h=>h.IsTupleIter it a i) where
 mem:=by simp
 obj:=fun i h st b hb=>by
  have e:b=it:=by simpa using hb
  subst e
  obtain⟨o,e,c,d⟩:=st
  exact⟨o,e,fun v z=>by rw [d] at z;cases z⟩
 keep:=fun i h h' st k=>st.at fun o e=>k it (by simp) o e
 item:=by
  intro X hP hw hK hc i pins s σ H E I hf st hg
  subst hP hw hK
  obtain⟨xs,x,hq,hx⟩:=hg
  obtain⟨its,rv,p,hz⟩:=I.tuple hq
  obtain⟨u,hu,ru⟩:=rv.get hx
  obtain⟨f0,f1,f2,f3,f4,f5⟩:=hf it (by simp)
  refine wpAny_pyNext_tuple_item st (show s.heap.IsTuple a its.toArray from p) (x:=u) (by simpa using hu) fun h' Fy sb=>?_
  have I1:Inv X pins σ H { s with heap:=h' }:=I.turned (t':=s.toks) (fun b o hb e=>(sb.2 b hb).trans e) f0 f1 f3 f4 f5
  obtain⟨o,e,c,d⟩:=id Fy
  exact⟨u,rfl,Fx (s:={ s with heap:=h' }) e c d (by decide) ⟨x,H,I1,ru,⟨rfl,fun ys hy=>by rw [I.rL hy hq];exact hx⟩,Fy,fun b hb=>(hf b hb).1⟩⟩
 done:=by
  intro X hP hw hK hc i pins s σ H E I hf st hg
  subst hP hw hK
  obtain⟨xs,hq,hx⟩:=hg
  obtain⟨its,rv,p,hz⟩:=I.tuple hq
  obtain⟨f0,f1,f2,f3,f4,f5⟩:=hf it (by simp)
  have hl:=rv.length
  exact wpAny_pyNext_tuple_end (I.ok.hd hc) st (show s.heap.IsTuple a its.toArray from p) (by simp;omega) fun h' eb=>⟨rfl,I.turned (t':=s.toks) (fun b o hb e=>eb b o hb e) f0 f1 f3 f4 f5⟩
 self:=fun _ _ _ _ _ st h=>wpAny_pyIter_tupleiter st h
theorem Ek {P:aaS} {w:abg} {K:aae} {tg:Expr} (it:aaB) (lo:Int) (n:Nat):Turn P w K tg (NC lo n) [it] it (fun i h=>IsRangeIter h it (lo+(i:Nat) * 1) ((n:Int) - (i:Nat)) 1) where
 mem:=by simp
 obj:=fun i h st b hb=>by
  have e:b=it:=by simpa using hb
  subst e
  exact⟨_,st,fun v z=>by
   have z':Data.fields _=Data.cell v:=z
   cases z'⟩
 keep:=fun i h h' st k=>k it (by simp) _ st
 item:=by
  intro X hP hw hK hc i pins s σ H E I hf st hg
  subst hP hw hK
  obtain⟨f0,f1,f2,f3,f4,f5⟩:=hf it (by simp)
  have W:=Walks.range (prog:=X.prog) (w:=X.w) (I.ok.hd hc) it lo 1 n
  refine W.item i s _ _ hg st fun v h' tk hv Fy kk=>?_
  obtain⟨t,rfl⟩:=hv
  have I1:Inv X pins σ H { s with heap:=h',toks:=tk }:=I.turned (fun b o hb e=>kk b o (by simpa using hb) e) f0 f1 f3 f4 f5
  refine⟨_,rfl,Fx (s:={ s with heap:=h',toks:=tk }) (n:="range_iterator") Fy rfl rfl (by decide) ⟨.int (lo+i),H,I1,⟨t,?_⟩,⟨rfl,rfl⟩,Fy,fun b hb=>(hf b hb).1⟩⟩
  rw [Int.mul_one]
 done:=by
  intro X hP hw hK hc i pins s σ H E I hf st hg
  subst hP hw hK
  obtain⟨f0,f1,f2,f3,f4,f5⟩:=hf it (by simp)
  exact wpAny_pyNext_range_end (I.ok.hd hc) st (by have:n≤i:=hg;omega) fun h' eb=>⟨rfl,I.turned (t':=s.toks) (fun b o hb e=>eb b o hb e) f0 f1 f3 f4 f5⟩
 self:=fun _ _ _ _ _ st h=>wpAny_pyIter_rangeiter st h
end L2
namespace L2
open PySem PySem.Spec PyProof.Rows
section
variable {X:Cx} {tg:Expr}
def Rz (K:aae) (tl:TE):TI:=fun σ H R=>tl σ H fun x H1=>∃a,x=.ref a∧(∃xs,aL K H1 a xs)∧R (IJ K a) H1
def V4 (K:aae) (tl:TE):TI:=fun σ H R=>tl σ H fun x H1=>∃a,x=.ref a∧(∃xs,bT K H1 a xs)∧R (NB K a) H1
theorem aT {l:Expr} {tl:TE} (hl:PE X l tl):PI X tg l (Rz X.K tl):=by
 intro pins s σ H R I h
 refine thn (hl pins s σ H _ I h) fun v s1 ⟨x,H1,I1,r1,q1⟩=>?_
 obtain⟨a,e,⟨xs,hq⟩,q⟩:=q1
 subst e
 cases r1
 obtain⟨its,rv,p,hz⟩:=I1.list hq
 refine wpAny_pyIter_list p.isList ?_
 refine⟨s1.heap.objs.size,[s1.heap.objs.size],_,_,H1,rfl,I1.kept (t':=s1.toks) fun b o e=>aaE _ e,GP a _,⟨_,abe _ rfl,rfl,rfl⟩,fun b hb=>?_,q⟩
 have e:b=s1.heap.objs.size:=by simpa using hb
 subst e
 exact I1.II (aaz _) (I1.hok.fresh (aaz _))
theorem El {l:Expr} {tl:TE} (hl:PE X l tl):PI X tg l (V4 X.K tl):=by
 intro pins s σ H R I h
 refine thn (hl pins s σ H _ I h) fun v s1 ⟨x,H1,I1,r1,q1⟩=>?_
 obtain⟨a,e,⟨xs,hq⟩,q⟩:=q1
 subst e
 cases r1
 obtain⟨its,rv,p,hz⟩:=I1.tuple hq
 refine wpAny_pyIter_tuple (show s1.heap.IsTuple a its.toArray from p) ?_
 refine⟨s1.heap.objs.size,[s1.heap.objs.size],_,_,H1,rfl,I1.kept (t':=s1.toks) fun b o e=>aaE _ e,Ej a _,⟨_,abe _ rfl,rfl,rfl⟩,fun b hb=>?_,q⟩
 have e:b=s1.heap.objs.size:=by simpa using hb
 subst e
 exact I1.II (aaz _) (I1.hok.fresh (aaz _))
theorem IK {pins:List (aaB × Obj)} {σ:St} {H:Hp} {s:aan} {R:It→Hp→Prop} {E:aai→aan→Prop} {lo hi:Int} {t u v:Tok} {tk:Nat} (I:Inv X pins σ H s) (h1:-(2 ^ 62)≤lo) (h2:lo<2 ^ 62) (h3:-(2 ^ 62)≤hi) (h4:hi<2 ^ 62)
  (q:R (NC lo (hi - lo).toNat) H):aa8 (model X.prog X.w) X.A (pyIter (.ref s.heap.objs.size)) (V2 X pins σ tg R) E { s with heap:=s.heap.push { cls:=.type "range",data:=.fields #[.int lo t,.int hi u,.int 1 v] },toks:=tk }:=by
 refine wpAny_pyIter_range (IsRange.new ..) (small_one h1 h2 h3 h4) ?_
 have I1:Inv X pins σ H { s with heap:=s.heap.push { cls:=.type "range",data:=.fields #[.int lo t,.int hi u,.int 1 v] },toks:=tk }:=I.kept fun b o e=>aaE _ e
 refine⟨(s.heap.push { cls:=.type "range",data:=.fields #[.int lo t,.int hi u,.int 1 v] }).objs.size,[(s.heap.push { cls:=.type "range",data:=.fields #[.int lo t,.int hi u,.int 1 v] }).objs.size],_,_,H,rfl,
  I1.kept (t':=tk) fun b o e=>aaE _ e,Ek _ lo (hi - lo).toNat,?_,fun b hb=>?_,q⟩
 ·have e1:lo+((0:Nat):Int) * 1=lo:=by simp
  have e2:(((hi - lo).toNat:Nat):Int) - ((0:Nat):Int)=Builtin.Range.rangeSize lo hi 1:=by rw [rangeSize_one];split <;> omega
  show IsRangeIter _ _ (lo+((0:Nat):Int) * 1) ((((hi - lo).toNat:Nat):Int) - ((0:Nat):Int)) 1
  rw [e1,e2]
  exact abe _ rfl
 ·have e:b=(s.heap.push { cls:=.type "range",data:=.fields #[.int lo t,.int hi u,.int 1 v] }).objs.size:=by simpa using hb
  subst e
  exact I1.II (aaz _) (I1.hok.fresh (aaz _))
def RA (ta:TA):TI:=fun σ H R=>ta σ H fun vs H1=>∃j:Int,vs=[.int j]∧-(2 ^ 62)≤j∧j<2 ^ 62∧R (NC 0 j.toNat) H1
theorem cC {a:Expr} {ta:TA} {p pos:Pos} (hg:Gl X "range") (hm:X.mg "range"=none) (ha:PA X [a] ta) (hs:starEach [a] X.env=[(false,eval a X.env)]:=by rfl):PI X tg (.Call (.Name "range" p) [a] [] pos) (RA ta):=by
 intro pins s σ H R I h
 refine Call_ (zJ I hg hm boot_range (ac9 (thn (ha pos pins s σ H _ I h) fun us s1 ⟨vs,H1,I1,r1,q1⟩=>?_) hs rfl))
 obtain⟨j,e,q1,q2,q⟩:=q1
 subst e
 cases r1 with
 | cons r rr =>
  cases rr
  obtain⟨t,rfl⟩:=r
  exact call_range_1 (IK I1 (by omega) (by omega) q1 q2 (by simpa using q))
def V5 (wi:TI) (g:TG) (tb:TS):TS:=fun D σ H=>wi σ H fun J H1=>∃W:Nat→Nat→St→Hp→Prop,(∃m,W 0 m σ H1)∧∀i m σ H,W i m σ H →
 (J.stop i H∧D.nx σ H)∨(J.go i H∧∃N:St→Hp→Prop,(∀σ' H',N σ' H'→∃m',m'<m∧W (i+1) m' σ' H')∧∀x H',J.OJ i H x H'→g x σ H' fun σ2 H2=>tb { D with nx:=N,ct:=N,bk:=D.nx } σ2 H2)
def uU (fp:List aaB) (h:Heap):List (aaB × Obj):=fp.filterMap fun b=>(h.get? b).map fun o=>(b,o)
theorem jw {fp:List aaB} {h:Heap} {b:aaB} {o:Obj} (hb:b∈fp) (e:h.get? b=some o):(b,o)∈uU fp h:=adw.mpr ⟨b,hb,by rw [e];rfl⟩
theorem GQ {fp:List aaB} {h:Heap} {p:aaB × Obj} (hp:p∈uU fp h):p.1∈fp∧h.get? p.1=some p.2:=by
 obtain⟨b,hb,e⟩:=adw.mp hp
 cases q:h.get? b with
 | none=>rw [q] at e;cases e
 | some o =>
  rw [q] at e
  have e':(b,o)=p:=aa7 e
  subst e'
  exact⟨hb,q⟩
theorem Inv.pinned {pins:List (aaB × Obj)} {σ:St} {H:Hp} {s:aan} {fp:List aaB} (I:Inv X pins σ H s) (hf:∀b∈fp,xl X pins H b) (ho:∀b∈fp,∃o,s.heap.get? b=some o∧∀v,o.data≠.cell v):Inv X (pins++uU fp s.heap) σ H s :=
 I.Fw fun p hp=>(aaq.mp hp).elim (fun z=>I.pin p (aah _ z)) fun z=>by
  obtain⟨hb,e⟩:=GQ z
  obtain⟨f0,f1,f2,_⟩:=hf p.1 hb
  obtain⟨o,e',d⟩:=ho p.1 hb
  rw [e] at e';cases e'
  exact⟨e,f0,f1,f2,d⟩
theorem Inv.pI {pins pl:List (aaB × Obj)} {σ:St} {H:Hp} {s:aan} (I:Inv X (pins++pl) σ H s):Inv X pins σ H s:=I.Fw fun p hp=>I.pin p (aah _ (aas _ hp))
theorem b8 {iter:Expr} {body:List Stmt} {wi:TI} {g:TG} {tb:TS} {pos:Pos} (hp:PassesOwn (model X.prog X.w) X.A X.env X.xe) (hc:X.calm=true) (hi:PI X tg iter wi) (hg:PG X tg g) (hb:Cf X body tb)
  (hs:∀x,foldedSetIterable iter X.env x=pure x:=by intro _;rfl):PS X (.For tg iter body [] pos) (V5 wi g tb):=by
 intro pins s σ H D I h
 refine wpAny_For (thn (hi pins s σ H _ I h) fun v s1 h1=>thn h1 fun V3 s2 h2=>?_) hs
 obtain⟨it,fp,tn,J,H2,e,I2,T,UM,f2,W,⟨m0,w0⟩,turn⟩:=h2
 subst e
 have Em:∀{H':Hp},(∀b∈fp,H' b=none)→∀b∈fp,xl X pins H' b:=fun hn b hb=>⟨hn b hb,(f2 b hb).2⟩
 refine codeAny_forLoop_any (fun n s'=>∃i σ' H',Inv X pins σ' H' s'∧tn i s'.heap∧(∀b∈fp,H' b=none)∧W i n σ' H') ?_ m0 ⟨0,σ,H2,I2,UM,fun b hb=>(f2 b hb).1,w0⟩
 rintro n s3 ⟨i,σ3,H3,I3,OK,fr3,w3⟩
 rcases turn i n σ3 H3 w3 with⟨stop,qn⟩|⟨go,N,hN,step⟩
 ·refine wpAny_passesOwn hp (thn (T.done X rfl rfl rfl hc i pins s3 σ3 H3 X.xe I3 (Em fr3) OK stop) fun r s4 ⟨hr,I4⟩=>?_)
  subst hr
  exact wpAny_execs_nil ⟨σ3,H3,I4,qn⟩
 ·refine wpAny_passesOwn hp (thn (T.item X rfl rfl rfl hc i pins s3 σ3 H3 X.xe I3 (Em fr3) OK go) fun r s4 ⟨u,hr,h4⟩=>?_)
  subst hr
  refine wpAny_passesOwn hp (thn h4 fun _ s5 ⟨x,H5,I5,r5,y5,OL,V6⟩=>?_)
  have I5':=I5.pinned (Em V6) (T.obj _ _ OL)
  refine wpAny_passesOwn hp (thn (hg _ s5 σ3 H5 x u _ I5' r5 (step x H5 y5)) fun _ s6 ⟨σ6,H6,I6,q6⟩=>?_)
  refine wpAny_passesOwn hp (thn (hb _ s6 σ6 H6 _ I6 q6) fun f s7 q7=>?_)
  have again:∀{σ7:St} {H7:Hp},Inv X (pins++uU fp s5.heap) σ7 H7 s7→N σ7 H7→∃m,m<n∧∃i σ' H',Inv X pins σ' H' s7∧tn i s7.heap∧(∀b∈fp,H' b=none)∧W i m σ' H':=fun {σ7 H7} I7 n7=>by
   obtain⟨m',hm,w7⟩:=hN σ7 H7 n7
   refine⟨m',hm,i+1,σ7,H7,I7.pI,T.keep _ _ _ OL fun b hb o e=>(I7.pin (b,o) (aah _ (aah _ (jw hb e)))).1,fun b hb=>?_,w7⟩
   obtain⟨o,e,d⟩:=T.obj _ _ OL b hb
   exact(I7.pin (b,o) (aah _ (aah _ (jw hb e)))).2.1
  cases f with
  | next=>obtain⟨σ7,H7,I7,n7⟩:=q7;exact again I7 n7
  | cont=>obtain⟨σ7,H7,I7,n7⟩:=q7;exact again I7 n7
  | brk=>obtain⟨σ7,H7,I7,q7⟩:=q7;exact⟨σ7,H7,I7.pI,q7⟩
  | ret v=>obtain⟨x7,σ7,H7,I7,r7,q7⟩:=q7;exact⟨x7,σ7,H7,I7.pI,r7,q7⟩
end
theorem bP {K:aae} {a:aaB} {xs:List V} {g:TG} {tb:TS} {D:Ends} {σ:St} {H:Hp} (Pv:Nat→St→Hp→Prop) (h0:Pv 0 σ H) (hl:∀i σ H,i≤xs.length→Pv i σ H→aL K H a xs)
  (hs:∀i x σ H,xs[i]?=some x→Pv i σ H→g x σ H fun σ2 H2=>tb { D with nx:=Pv (i+1),ct:=Pv (i+1),bk:=D.nx } σ2 H2) (hd:∀σ H,Pv xs.length σ H→D.nx σ H) :
  ∃W:Nat→Nat→St→Hp→Prop,(∃m,W 0 m σ H)∧∀i m σ H,W i m σ H →
   ((IJ K a).stop i H∧D.nx σ H)∨((IJ K a).go i H∧∃N:St→Hp→Prop,(∀σ' H',N σ' H'→∃m',m'<m∧W (i+1) m' σ' H')∧∀x H',(IJ K a).OJ i H x H'→g x σ H' fun σ2 H2=>tb { D with nx:=N,ct:=N,bk:=D.nx } σ2 H2):=by
 refine⟨fun i m σ H=>m=xs.length - i∧i≤xs.length∧Pv i σ H,⟨xs.length,by simp,abt _,h0⟩,?_⟩
 rintro i m σ H ⟨rfl,hi,p⟩
 have q:=hl i σ H hi p
 by_cases t9:i<xs.length
 ·refine .inr ⟨⟨xs,xs[i],q,by simp [t9]⟩,Pv (i+1),fun σ' H' p'=>⟨xs.length - (i+1),by omega,rfl,t9,p'⟩,fun x H' y=>?_⟩
  obtain⟨e,y⟩:=y
  subst e
  exact hs i x σ _ (y xs q) p
 ·have e:i=xs.length:=by omega
  subst e
  exact .inl ⟨⟨xs,q,aaz _⟩,hd σ H p⟩
theorem Fz {K:aae} {a:aaB} {xs:List V} {g:TG} {tb:TS} {D:Ends} {σ:St} {H:Hp} (Pv:Nat→St→Hp→Prop) (h0:Pv 0 σ H) (hl:∀i σ H,i≤xs.length→Pv i σ H→bT K H a xs)
  (hs:∀i x σ H,xs[i]?=some x→Pv i σ H→g x σ H fun σ2 H2=>tb { D with nx:=Pv (i+1),ct:=Pv (i+1),bk:=D.nx } σ2 H2) (hd:∀σ H,Pv xs.length σ H→D.nx σ H) :
  ∃W:Nat→Nat→St→Hp→Prop,(∃m,W 0 m σ H)∧∀i m σ H,W i m σ H →
   ((NB K a).stop i H∧D.nx σ H)∨((NB K a).go i H∧∃N:St→Hp→Prop,(∀σ' H',N σ' H'→∃m',m'<m∧W (i+1) m' σ' H')∧∀x H',(NB K a).OJ i H x H'→g x σ H' fun σ2 H2=>tb { D with nx:=N,ct:=N,bk:=D.nx } σ2 H2):=by
 refine⟨fun i m σ H=>m=xs.length - i∧i≤xs.length∧Pv i σ H,⟨xs.length,by simp,abt _,h0⟩,?_⟩
 rintro i m σ H ⟨rfl,hi,p⟩
 have q:=hl i σ H hi p
 by_cases t9:i<xs.length
 ·refine .inr ⟨⟨xs,xs[i],q,by simp [t9]⟩,Pv (i+1),fun σ' H' p'=>⟨xs.length - (i+1),by omega,rfl,t9,p'⟩,fun x H' y=>?_⟩
  obtain⟨e,y⟩:=y
  subst e
  exact hs i x σ _ (y xs q) p
 ·have e:i=xs.length:=by omega
  subst e
  exact .inl ⟨⟨xs,q,aaz _⟩,hd σ H p⟩
theorem gB {lo:Int} {n:Nat} {g:TG} {tb:TS} {D:Ends} {σ:St} {H:Hp} (Pv:Nat→St→Hp→Prop) (h0:Pv 0 σ H)
  (hs:∀i σ H,i<n→Pv i σ H→g (.int (lo+i)) σ H fun σ2 H2=>tb { D with nx:=Pv (i+1),ct:=Pv (i+1),bk:=D.nx } σ2 H2) (hd:∀σ H,Pv n σ H→D.nx σ H) :
  ∃W:Nat→Nat→St→Hp→Prop,(∃m,W 0 m σ H)∧∀i m σ H,W i m σ H →
   ((NC lo n).stop i H∧D.nx σ H)∨((NC lo n).go i H∧∃N:St→Hp→Prop,(∀σ' H',N σ' H'→∃m',m'<m∧W (i+1) m' σ' H')∧∀x H',(NC lo n).OJ i H x H'→g x σ H' fun σ2 H2=>tb { D with nx:=N,ct:=N,bk:=D.nx } σ2 H2):=by
 refine⟨fun i m σ H=>m=n - i∧i≤n∧Pv i σ H,⟨n,by simp,abt _,h0⟩,?_⟩
 rintro i m σ H ⟨rfl,hi,p⟩
 by_cases t9:i<n
 ·refine .inr ⟨t9,Pv (i+1),fun σ' H' p'=>⟨n - (i+1),by omega,rfl,t9,p'⟩,fun x H' y=>?_⟩
  obtain⟨e,y⟩:=y
  subst e y
  exact hs i σ _ t9 p
 ·have e:i=n:=by omega
  subst e
  exact .inl ⟨aaz _,hd σ H p⟩
end L2
namespace L2
open PySem PySem.Spec PyProof.Rows
abbrev R2:=V→V→Hp→VK→Prop
def rH (X:Cx) (f:aai→aai→Sem aai) (r:R2):Prop :=
 ∀(pins:List (aaB × Obj)) (s:aan) (σ:St) (H:Hp) (x y:V) (v u:aai) (Q:VK),Inv X pins σ H s→RelV x v→RelV y u→r x y H Q →
  aa8 (model X.prog X.w) X.A (f v u) (EP X pins σ Q) X.xe s
def V7 (X:Cx) (f:aai→Sem aai) (r:V→Hp→VK→Prop):Prop :=
 ∀(pins:List (aaB × Obj)) (s:aan) (σ:St) (H:Hp) (x:V) (v:aai) (Q:VK),Inv X pins σ H s→RelV x v→r x H Q →
  aa8 (model X.prog X.w) X.A (f v) (EP X pins σ Q) X.xe s
def d8 (X:Cx) (f:aai) (r:List V→Hp→VK→Prop):Prop :=
 ∀(pins:List (aaB × Obj)) (s:aan) (σ:St) (H:Hp) (xs:List V) (us:List aai) (Q:VK),Inv X pins σ H s→Vals xs us→r xs H Q →
  aa8 (model X.prog X.w) X.A (call f us) (EP X pins σ Q) X.xe s
def UN (r:R2) (ta tb:TE):TE:=fun σ H Q=>ta σ H fun x H1=>tb σ H1 fun y H2=>r x y H2 Q
def tUn (r:V→Hp→VK→Prop) (ta:TE):TE:=fun σ H Q=>ta σ H fun x H1=>r x H1 Q
def rI (C:Int→Int→Prop) (g:Int→Int→V):R2:=fun x y H Q=>∃i j,x=.int i∧y=.int j∧C i j∧Q (g i j) H
def OM (g:Int→Int→V):R2:=fun x y H Q=>∃i j,x=.int i∧y=.int j∧Q (g i j) H
def rU (g:Int→V):V→Hp→VK→Prop:=fun x H Q=>∃i,x=.int i∧Q (g i) H
section
variable {X:Cx} {a b c:Expr} {ta tb tc:TE} {pos:Pos}
theorem ON (ha:PE X a ta) (hb:PE X b tb) {pins:List (aaB × Obj)} {s:aan} {σ:St} {H:Hp} {R:V→V→Hp→Prop} (I:Inv X pins σ H s)
  (h:ta σ H fun x H1=>tb σ H1 fun y H2=>R x y H2) {Q:aai→aan→Prop} {f:aai→aai→Sem aai}
  (hf:∀v u s2 x y H2,Inv X pins σ H2 s2→RelV x v→RelV y u→R x y H2→aa8 (model X.prog X.w) X.A (f v u) Q X.xe s2) :
  aa8 (model X.prog X.w) X.A (eval a X.env) (fun v s₁=>aa8 (model X.prog X.w) X.A (eval b X.env) (fun u s₂=>aa8 (model X.prog X.w) X.A (f v u) Q X.xe s₂) X.xe s₁) X.xe s:=by
 refine thn (ha pins s σ H _ I h) fun v s1 ⟨x,H1,I1,r1,q1⟩=>?_
 refine thn (hb pins s1 σ H1 _ I1 q1) fun u s2 ⟨y,H2,I2,r2,q2⟩=>?_
 exact hf v u s2 x y H2 I2 r1 r2 q2
theorem aw {op:Operator} {r:R2} (ho:rH X (binaryOp op) r) (ha:PE X a ta) (hb:PE X b tb):PE X (.BinOp a op b pos) (UN r ta tb):=by
 intro pins s σ H Q I h
 exact wpAny_BinOp (ON ha hb I h fun v u s2 x y H2 I2 rx ry q=>ho pins s2 σ H2 x y v u Q I2 rx ry q)
theorem RB {op:UnaryOp} {r:V→Hp→VK→Prop} (ho:V7 X (unaryOp op) r) (ha:PE X a ta):PE X (.UnaryOp op a pos) (tUn r ta):=by
 intro pins s σ H Q I h
 exact UnaryOp_ (thn (ha pins s σ H _ I h) fun v s1 ⟨x,H1,I1,r1,q1⟩=>ho pins s1 σ H1 x v Q I1 r1 q1)
theorem V8 {f:aai→aai→Sem aai} {C:Int→Int→Prop} {g:Int→Int→Int}
  (rule:∀(i j:Int) (t u:Tok) (s:aan) (Q:aai→aan→Prop) (E:aai→aan→Prop),C i j→Q (.int (g i j) s.toks) { s with toks:=s.toks+1 }→aa8 (model X.prog X.w) X.A (f (.int i t) (.int j u)) Q E s) :
  rH X f (rI C fun i j=>.int (g i j)):=by
 intro pins s σ H x y v u Q I rx ry h
 obtain⟨i,j,rfl,rfl,hc,q⟩:=h
 obtain⟨t,rfl⟩:=rx
 obtain⟨t',rfl⟩:=ry
 exact rule i j t t' s _ _ hc ⟨.int (g i j),H,I.tok _,⟨_,rfl⟩,q⟩
theorem RC {f:aai→aai→Sem aai} {g:Int→Int→Int}
  (rule:∀(i j:Int) (t u:Tok) (s:aan) (Q:aai→aan→Prop) (E:aai→aan→Prop),Q (.int (g i j) s.toks) { s with toks:=s.toks+1 }→aa8 (model X.prog X.w) X.A (f (.int i t) (.int j u)) Q E s) :
  rH X f (OM fun i j=>.int (g i j)):=by
 intro pins s σ H x y v u Q I rx ry h
 obtain⟨i,j,rfl,rfl,q⟩:=h
 obtain⟨t,rfl⟩:=rx
 obtain⟨t',rfl⟩:=ry
 exact rule i j t t' s _ _ ⟨.int (g i j),H,I.tok _,⟨_,rfl⟩,q⟩
theorem OO {f:aai→aai→Sem aai} {g:Int→Int→Bool}
  (rule:∀(i j:Int) (t u:Tok) (s:aan) (Q:aai→aan→Prop) (E:aai→aan→Prop),Q (.bool (g i j)) s→aa8 (model X.prog X.w) X.A (f (.int i t) (.int j u)) Q E s) :
  rH X f (OM fun i j=>.bl (g i j)):=by
 intro pins s σ H x y v u Q I rx ry h
 obtain⟨i,j,rfl,rfl,q⟩:=h
 obtain⟨t,rfl⟩:=rx
 obtain⟨t',rfl⟩:=ry
 exact rule i j t t' s _ _ ⟨.bl (g i j),H,I,rfl,q⟩
def V9 (i j:Int):Prop:=0<j∧j<1073741824
def OP (i j:Int):Prop:=(-(2 ^ 64)<i∧i<2 ^ 64)∨(-(2 ^ 64)<j∧j<2 ^ 64)
theorem OP.ok {i j:Int} (h:OP i j):IntMulOk i j:=by
 rcases h with⟨h1,h2⟩|⟨h1,h2⟩
 ·exact .of_left (intBits_le_64 h1 h2)
 ·exact .of_right (intBits_le_64 h1 h2)
theorem cE:rH X (binaryOp .Add) (OM fun i j=>.int (i+j)):=RC fun _ _ _ _ _ _ _ q=>add_int q
theorem En:rH X (binaryOp .Sub) (OM fun i j=>.int (i - j)):=RC fun _ _ _ _ _ _ _ q=>sub_int q
theorem jx:rH X (binaryOp .Mult) (rI OP fun i j=>.int (i * j)):=V8 fun _ _ _ _ _ _ _ hc q=>mul_int q hc.ok
theorem cK:rH X (binaryOp .FloorDiv) (rI V9 fun i j=>.int (i / j)):=V8 fun i j _ _ _ _ _ hc q=>by
 have h1:(0:Int)<j:=hc.1
 have h2:j<1073741824:=hc.2
 exact floordiv_int (by omega) (by rw [Int.fdiv_eq_ediv_of_nonneg i (by omega)];exact q) (.inl (PyProof.noPylong_small (by omega)))
theorem bt:rH X (binaryOp .Mod) (rI (fun _ j=>0<j) fun i j=>.int (i % j)):=V8 fun i j _ _ _ _ _ hc q=>by
 have h1:(0:Int)<j:=hc
 exact mod_int' (by omega) (by rw [Int.fmod_eq_emod_of_nonneg i (by omega)];exact q)
theorem unI {f:aai→Sem aai} {g:Int→Int}
  (rule:∀(i:Int) (t:Tok) (s:aan) (Q:aai→aan→Prop) (E:aai→aan→Prop),Q (.int (g i) s.toks) { s with toks:=s.toks+1 }→aa8 (model X.prog X.w) X.A (f (.int i t)) Q E s) :
  V7 X f (rU fun i=>.int (g i)):=by
 intro pins s σ H x v Q I rx h
 obtain⟨i,rfl,q⟩:=h
 obtain⟨t,rfl⟩:=rx
 exact rule i t s _ _ ⟨.int (g i),H,I.tok _,⟨_,rfl⟩,q⟩
theorem OQ:V7 X (unaryOp .USub) (rU fun i=>.int (-i)):=unI fun _ _ _ _ _ q=>neg_int q
end
def RD:V→V→Bool
 | .cB,.cB=>true|.cB,.int _=>true|.int _,.cB=>true|.cB,.bl _=>true|.bl _,.cB=>true|.cB,.str _=>true|.str _,.cB=>true
 | .int _,.int _=>true|.bl _,.bl _=>true|.str _,.str _=>true|.Io _,.Io _=>true
 | .int _,.str _=>true|.str _,.int _=>true|.bl _,.str _=>true|.str _,.bl _=>true
 | _,_=>false
def rEq:R2:=fun x y H Q=>RD x y=true∧Q (.bl (decide (x=y))) H
def rNe:R2:=fun x y H Q=>RD x y=true∧Q (.bl (!decide (x=y))) H
theorem FA {i j:Int}:decide (V.int i=V.int j)=(i == j):=by
 rw [ab0]
 simp
theorem IL {i j:Bool}:decide (V.bl i=V.bl j)=(i == j):=by
 rw [ab0]
 simp
theorem FC {i j:Str}:decide (V.str i=V.str j)=(i == j):=by
 rw [ab0]
 simp
theorem FD {i j:Array UInt8}:decide (V.Io i=V.Io j)=(i.toList == j.toList):=by
 rw [ab0]
 cases i
 cases j
 simp
section
variable {X:Cx} {a b c:Expr} {ta tb tc:TE} {pos:Pos}
theorem bM {pins:List (aaB × Obj)} {σ:St} {H:Hp} {s:aan} {Q:VK} {k k':Bool} (I:Inv X pins σ H s) (q:Q (.bl k) H) (e:k=k'):EP X pins σ Q (.bool k') s:=by
 subst e
 exact⟨.bl k,H,I,rfl,q⟩
theorem cg:rH X (compareOp .Eq) rEq:=by
 intro pins s σ H x y v u Q I rx ry h
 obtain⟨hs,q⟩:=h
 cases x with
 | cB =>
  cases rx
  cases y with
  | cB=>cases ry;exact PySem.EqNone.eq_none_none (bM I q (by simp))
  | bl j=>cases ry;exact PySem.EqNone.eq_none_bool (bM I q (by simp))
  | int j=>obtain⟨t',rfl⟩:=ry;exact PySem.EqNone.eq_none_int (bM I q (by simp))
  | str j=>obtain⟨t',rfl⟩:=ry;exact PySem.EqNone.eq_none_str (bM I q (by simp))
  | _=>exact absurd (show false=true from hs) aaJ
 | bl i =>
  cases rx
  cases y with
  | cB=>cases ry;exact PySem.EqNone.eq_bool_none (bM I q (by simp))
  | bl j=>cases ry;exact eq_bool (bM I q IL)
  | str j=>obtain⟨t',rfl⟩:=ry;exact PySem.EqMixed.eq_bool_str (bM I q (by simp))
  | _=>exact absurd (show false=true from hs) aaJ
 | int i =>
  obtain⟨t,rfl⟩:=rx
  cases y with
  | cB=>cases ry;exact PySem.EqNone.eq_int_none (bM I q (by simp))
  | int j=>obtain⟨t',rfl⟩:=ry;exact eq_int (bM I q FA)
  | str j=>obtain⟨t',rfl⟩:=ry;exact PySem.EqMixed.eq_int_str (bM I q (by simp))
  | _=>exact absurd (show false=true from hs) aaJ
 | str i =>
  obtain⟨t,rfl⟩:=rx
  cases y with
  | cB=>cases ry;exact PySem.EqNone.eq_str_none (bM I q (by simp))
  | bl j=>cases ry;exact PySem.EqMixed.eq_str_bool (bM I q (by simp))
  | int j=>obtain⟨t',rfl⟩:=ry;exact PySem.EqMixed.eq_str_int (bM I q (by simp))
  | str j=>obtain⟨t',rfl⟩:=ry;exact eq_str (bM I q FC)
  | _=>exact absurd (show false=true from hs) aaJ
 | Io i =>
  obtain⟨t,rfl⟩:=rx
  cases y with
  | Io j=>obtain⟨t',rfl⟩:=ry;exact PySem.W.eq_bytes (bM I q FD)
  | _=>exact absurd (show false=true from hs) aaJ
 | _=>cases y <;> exact absurd (show false=true from hs) aaJ
theorem ib:rH X (compareOp .NotEq) rNe:=by
 intro pins s σ H x y v u Q I rx ry h
 obtain⟨hs,q⟩:=h
 cases x with
 | cB =>
  cases rx
  cases y with
  | cB=>cases ry;exact PySem.EqNone.ne_none_none (bM I q (by simp))
  | bl j=>cases ry;exact PySem.EqNone.ne_none_bool (bM I q (by simp))
  | int j=>obtain⟨t',rfl⟩:=ry;exact PySem.EqNone.ne_none_int (bM I q (by simp))
  | str j=>obtain⟨t',rfl⟩:=ry;exact PySem.EqNone.ne_none_str (bM I q (by simp))
  | _=>exact absurd (show false=true from hs) aaJ
 | bl i =>
  cases rx
  cases y with
  | cB=>cases ry;exact PySem.EqNone.ne_bool_none (bM I q (by simp))
  | bl j=>cases ry;exact ne_bool (bM I q (congrArg not IL))
  | str j=>obtain⟨t',rfl⟩:=ry;exact PySem.EqMixed.ne_bool_str (bM I q (by simp))
  | _=>exact absurd (show false=true from hs) aaJ
 | int i =>
  obtain⟨t,rfl⟩:=rx
  cases y with
  | cB=>cases ry;exact PySem.EqNone.ne_int_none (bM I q (by simp))
  | int j=>obtain⟨t',rfl⟩:=ry;exact ne_int (bM I q (congrArg not FA))
  | str j=>obtain⟨t',rfl⟩:=ry;exact PySem.EqMixed.ne_int_str (bM I q (by simp))
  | _=>exact absurd (show false=true from hs) aaJ
 | str i =>
  obtain⟨t,rfl⟩:=rx
  cases y with
  | cB=>cases ry;exact PySem.EqNone.ne_str_none (bM I q (by simp))
  | bl j=>cases ry;exact PySem.EqMixed.ne_str_bool (bM I q (by simp))
  | int j=>obtain⟨t',rfl⟩:=ry;exact PySem.EqMixed.ne_str_int (bM I q (by simp))
  | str j=>obtain⟨t',rfl⟩:=ry;exact ne_str (bM I q (congrArg not FC))
  | _=>exact absurd (show false=true from hs) aaJ
 | Io i =>
  obtain⟨t,rfl⟩:=rx
  cases y with
  | Io j=>obtain⟨t',rfl⟩:=ry;exact PySem.W.ne_bytes (bM I q (congrArg not FD))
  | _=>exact absurd (show false=true from hs) aaJ
 | _=>cases y <;> exact absurd (show false=true from hs) aaJ
theorem uV:rH X (compareOp .Lt) (OM fun i j=>.bl (decide (i<j))):=OO fun _ _ _ _ _ _ _ q=>lt_int q
theorem ND:rH X (compareOp .LtE) (OM fun i j=>.bl (decide (i≤j))):=OO fun _ _ _ _ _ _ _ q=>le_int q
theorem lD:rH X (compareOp .Gt) (OM fun i j=>.bl (decide (j<i))):=OO fun _ _ _ _ _ _ _ q=>gt_int q
theorem gD:rH X (compareOp .In) (fun x y H Q=>∃i j,x=.str i∧y=.str j∧Q (.bl (!(Builtin.Str.occurrences j i 0 j.length 1).isEmpty)) H):=by
 intro pins s σ H x y v u Q I rx ry h
 obtain⟨i,j,rfl,rfl,q⟩:=h
 obtain⟨t,rfl⟩:=rx
 obtain⟨t',rfl⟩:=ry
 exact in_str (bM I q rfl)
theorem aM (b:Expr) {op:CmpOp} (h:op≠.In:=by decide) (h2:op≠.NotIn:=by decide):behindInMarks op b=false:=by
 have e1:(op == CmpOp.In)=false:=by cases op <;> first|rfl|exact absurd rfl h
 have e2:(op == CmpOp.NotIn)=false:=by cases op <;> first|rfl|exact absurd rfl h2
 cases b <;> simp [behindInMarks,e1,e2]
theorem cZ {op:CmpOp} {r:R2} (ho:rH X (compareOp op) r) (ha:PE X a ta) (hb:PE X b tb) (hm:behindInMarks op b=false):PE X (.Compare a [op] [b] pos) (UN r ta tb):=by
 intro pins s σ H Q I h
 exact wpAny_Compare1 (ON ha hb I h fun v u s2 x y H2 I2 rx ry q=>ho pins s2 σ H2 x y v u Q I2 rx ry q) hm
def RE (t:TE):TT:=fun σ H Q=>t σ H fun x H'=>∃k,x=.bl k∧Q k H'
theorem aE {op:CmpOp} {r:R2} (ho:rH X (compareOp op) r) (ha:PE X a ta) (hb:PE X b tb) (hm:behindInMarks op b=false):PT X (.Compare a [op] [b] pos) (RE (UN r ta tb)):=by
 intro pins s σ H Q I h
 refine wpAny_isTrue_Compare1 (thn (ha pins s σ H _ I h) fun v s1 ⟨x,H1,I1,r1,q1⟩=>thn (hb pins s1 σ H1 _ I1 q1) fun u s2 ⟨y,H2,I2,r2,q2⟩ =>
  thn (ho pins s2 σ H2 x y v u _ I2 r1 r2 q2) fun c s3 ⟨z,H3,I3,r3,k,e,q3⟩=>?_) hm
 subst e
 cases r3
 exact wpAny_truthy_bool ⟨H3,I3,q3⟩
def OR (r r':R2) (ta tb tc:TE):TE:=fun σ H Q=>ta σ H fun x H1=>tb σ H1 fun y H2=>r x y H2 fun z H3=>∃k,z=.bl k ∧
 (if k=true then tc σ H3 fun w' H4=>r' y w' H4 Q else Q (.bl false) H3)
theorem IM {op Wa:CmpOp} {r r':R2} (ho:rH X (compareOp op) r) (ho':rH X (compareOp Wa) r') (ha:PE X a ta) (hb:PE X b tb) (hc:PE X c tc)
  (hm:lastMarks [op,Wa] [b,c]=false:=by with_unfolding_all rfl):PE X (.Compare a [op,Wa] [b,c] pos) (OR r r' ta tb tc):=by
 intro pins s σ H Q I h
 refine Compare_chain (thn (ha pins s σ H _ I h) fun v s1 ⟨x,H1,I1,r1,q1⟩=>chain_link (thn (hb pins s1 σ H1 _ I1 q1) fun u s2 ⟨y,H2,I2,r2,q2⟩ =>
  thn (ho pins s2 σ H2 x y v u _ I2 r1 r2 q2) fun d s3 ⟨z,H3,I3,r3,k,e,q3⟩=>?_)) hm
 subst e
 cases r3
 refine wpAny_truthy_bool ?_
 cases k with
 | false=>exact ite_ff ⟨.bl false,H3,I3,rfl,q3⟩
 | true=>exact ite_tt (chain_last (thn (hc pins s3 σ H3 _ I3 q3) fun w' s4 ⟨z',H4,I4,r4,q4⟩=>ho' pins s4 σ H4 y z' u w' Q I4 r2 r4 q4))
theorem rM:(aaj:Nat)<2 ^ 63:=by rw [aax];decide
theorem aQ:rH X (binaryOp .Add) (fun x y H Q=>∃i j,x=.str i∧y=.str j∧i.length+j.length≤aaj∧Q (.str (i++j)) H):=by
 intro pins s σ H x y v u Q I rx ry h
 obtain⟨i,j,rfl,rfl,hz,q⟩:=h
 obtain⟨t,rfl⟩:=rx
 obtain⟨t',rfl⟩:=ry
 exact add_str (fun t' tk=>⟨.str (i++j),H,I.tok _,⟨_,rfl⟩,q⟩) hz
theorem vals1 {x:V} {us:List aai} (r:Vals [x] us):∃u,us=[u]∧RelV x u:=by
 cases r with
 | cons r1 r2=>cases r2;exact⟨_,rfl,r1⟩
theorem vals2 {x y:V} {us:List aai} (r:Vals [x,y] us):∃u w',us=[u,w']∧RelV x u∧RelV y w':=by
 cases r with
 | cons r1 r2 =>
  cases r2 with
  | cons r3 r4=>cases r4;exact⟨_,_,rfl,r1,r3⟩
theorem GR:d8 X (.type "int") (fun xs H Q=>(∃i,xs=[.int i]∧Q (.int i) H)∨∃k,xs=[.bl k]∧Q (.int (if k then 1 else 0)) H):=by
 intro pins s σ H xs us Q I r h
 rcases h with⟨i,rfl,q⟩|⟨k,rfl,q⟩
 ·obtain⟨u,rfl,t,rfl⟩:=vals1 r
  exact call_int_int ⟨.int i,H,I,⟨_,rfl⟩,q⟩
 ·obtain⟨u,rfl,r1⟩:=vals1 r
  cases r1
  exact call_int_bool ⟨.int (if k then 1 else 0),H,I.tok _,⟨_,rfl⟩,q⟩
theorem pJ:d8 X (.type "str") (fun xs H Q=>∃i,xs=[.int i]∧i.natAbs.log2<1920∧Q (.str (toString i)) H):=by
 intro pins s σ H xs us Q I r h
 obtain⟨i,rfl,hz,q⟩:=h
 obtain⟨u,rfl,t,rfl⟩:=vals1 r
 exact PySem.P.str_of_int hz ⟨.str _,H,I.tok _,⟨_,rfl⟩,q⟩
end
end L2
namespace L2
open PySem PySem.Spec PyProof.Rows
structure Eo (h:Heap) (x dx C:aaB) (mA:Str→Option aai):Prop where
 obj:h.get? x=some (abZ C dx)
 ns:h.Ns1 dx mA
 ne:dx≠x
theorem GU {h:Heap} {dx:aaB} {mA:Str→Option aai} (n:h.Ns1 dx mA):∃od,h.get? dx=some od∧∀name,adC name od=some (mA name):=by
 obtain⟨o,es,ep,ho,hd,hk,_,hm⟩:=n
 refine⟨o,ho,fun name=>?_⟩
 have e:=hm name
 unfold nsFind findBy at e
 rw [← Array.find?_toList] at e
 unfold adC
 rw [hd]
 dsimp only
 split
 ·rename_i y q
  rw [q] at e
  exact congrArg some e
 ·rename_i q
  rw [q] at e
  have a:es.toList.any (·.refKey)=false:=by
   rw [List.any_eq_false]
   intro y hy
   obtain⟨z,t,hkey⟩:=hk y (Array.mem_toList_iff.mp hy)
   simp [DictEntry.refKey,hkey]
  have a':¬ es.toList.any (·.refKey)=true:=by rw [a];exact aaJ
  rw [if_neg a']
  exact congrArg some e
theorem Eo.look {h:Heap} {x dx C:aaB} {mA:Str→Option aai} (I:Eo h x dx C mA):∃od,PySem.W.InstAt h x (abZ C dx) C (some od)∧∀name,adC name od=some (mA name) :=
 let ⟨od,ho,hl⟩:=GU I.ns
 ⟨od,⟨I.obj,rfl,rfl,ho⟩,hl⟩
section
variable {prog:aaS} {w:abg} {A:abi} {E:aai→aan→Prop} {s:aan} {K:aae} {x dx C f:aaB} {mA:Str→Option aai} {name:Str} {v:aai}
theorem get_map {expr:Bool} {Q:aai→aan→Prop} (X:K.In s.heap) (I:Eo s.heap x dx C mA) (hg:abS K C name=true) (hh:abX K C=true)
  (ha:abV K (.ref C) name=some none) (hv:mA name=some v) (hv':aeX v=true) (h:Q v { s with toks:=s.toks+1 }) :
  aa8 (model prog w) A (getAttr (.ref x) name expr) Q E s:=by
 obtain⟨od,J,hl⟩:=I.look
 exact PySem.W.get_value X J (ada hg).1 (PySem.W.findObj_own hh ha rfl (by rw [hl,hv])) hv' h
theorem IP {pl:Sem Bool} {Q:aai × List aai→aan→Prop} (X:K.In s.heap) (I:Eo s.heap x dx C mA) (hg:abS K C name=true)
  (hf:abV K (.ref C) name=some (some (.ref f))) (ht:aeR K (.ref f)=true) (hv:mA name=none) (h:Q (.ref f,[.ref x]) s) :
  aa8 (model prog w) A (getMethod (.ref x) name pl) Q E s:=by
 obtain⟨od,J,hl⟩:=I.look
 exact PySem.W.method_fn X J (ada hg).1 (ada hg).2 hf (beq_iff_eq.mp ht) (by show(adC name od).map (·.isSome)=some false;rw [hl,hv];rfl) h
theorem LH {ns:List Str} {Q:Unit→aan→Prop} (X:K.In s.heap) (I:Eo s.heap x dx C mA)
  (hs:abV K (.ref C) "__setattr__"=some (some (.builtin "object.__setattr__"))) (hp:ab5 K C=true) (ht:ad7 K C name=some none) (hh:abX K C=true)
  (hw:aeQ mA ns) (hsz:ns.length≤aaj)
  (h:∀h',Eo h' x dx C (fun y=>if y=name then some v else mA y)→ad6 dx s.heap h'→Q () { s with heap:=h',toks:=s.toks+2 }) :
  aa8 (model prog w) A (setAttr (.ref x) name v) Q E s:=by
 obtain⟨od,J,hl⟩:=I.look
 refine PySem.W.set_plain X J hs (PySem.W.osa_open (s:={ s with toks:=s.toks+1 }) (r:=none) X J hp ht fun b=>?_)
 obtain⟨cd,hc,hd'⟩:=PySem.W.any_some hh
 have hx:s.heap.get? x=some ⟨.ref C,some dx,.plain,#[]⟩:=I.obj
 refine aaw (aaX (aaw (aaw (wpAny_loadPart hx (aaw (PySem.W.Looks.here (s:={ s with toks:=s.toks+1 }) (PySem.W.looks_clsIn X hc) ?_))))))
 rw [hd']
 refine aaX (a:=some dx) (aaw (aaX (aaw ?_)))
 refine wpAny_nsSet1 (s:={ s with toks:=s.toks+1 }) I.ns fun h' GV NF=>?_
 obtain⟨oD,esD,epD,hoD,hdD,LJ⟩:=GV.count (PySem.Within.cons name v hw)
 refine aaw (wpAny_lookBehind hoD (by rw [hdD];exact pastItsLine_dict (abj LJ (by rw [aar];omega))) ?_)
 exact aaX (h _ ⟨(NF.2 _ (ack I.ne)).trans I.obj,GV,I.ne⟩ NF)
theorem IQ {R:Result→aan→Prop} {vs:List aai} {kw:List (Str × aai)} (X:K.In s.heap) (hm:acm K C=true)
  (hi:abV K (.ref C) "__init__"=some (some (.ref f))) (hf:acg K (.ref f)=some (.type "function"))
  (h:codeAny (model prog w) (A.under (.builtin "type.__call__" ⟨.ref C::vs,kw⟩)) (.call (.ref f) ⟨.ref (s.heap.objs.size+1)::vs,kw⟩) (PySem.W.InitBack (s.heap.objs.size+1) R)
   { s with heap:=(s.heap.push abI).push (abZ C s.heap.objs.size) }) :
  codeAny (model prog w) A (.call (.ref C) ⟨vs,kw⟩) R s:=by
 obtain⟨hh,g,d,t,os⟩:=s
 exact PySem.W.make_core (PySem.W.makes_of X hm) (PySem.W.looks_findIn X hi) (fun self=>PySem.W.bind_fn X self hf) (.inl rfl) h
end
def bS (f:Str) (v:V):List (Str × V)→List (Str × V)
 | []=>[(f,v)]
 | (g,x)::r=>if g=f then (g,v)::r else (g,x)::bS f v r
theorem a5 (f g:Str) (v:V):∀fs:List (Str × V),(bS f v fs).lookup g=if g=f then some v else fs.lookup g
 | []=>by
  show acA g [(f,v)]=_
  by_cases h:g=f
  ·have hb:(g == f)=true:=beq_iff_eq.mpr h
   simp only [acA,hb,if_pos h]
  ·have hb:(g == f)=false:=beq_eq_false_iff_ne.mpr h
   simp only [acA,hb,if_neg h]
 | (k,x)::r=>by
  have ih:=a5 f g v r
  rw [show bS f v ((k,x)::r)=(if k=f then (k,v)::r else (k,x)::bS f v r) from rfl]
  by_cases hk:k=f
  ·rw [if_pos hk]
   by_cases h:g=k
   ·have hb:(g == k)=true:=beq_iff_eq.mpr h
    simp only [acA,hb,if_pos (h.trans hk)]
   ·have hb:(g == k)=false:=beq_eq_false_iff_ne.mpr h
    simp only [acA,hb,if_neg (fun e:g=f=>h (e.trans hk.symm))]
  ·rw [if_neg hk]
   by_cases h:g=k
   ·have hb:(g == k)=true:=beq_iff_eq.mpr h
    simp only [acA,hb,if_neg (fun e:g=f=>hk (h.symm.trans e))]
   ·have hb:(g == k)=false:=beq_eq_false_iff_ne.mpr h
    simp only [acA,hb]
    exact ih
theorem rN (f:Str) (v:V):∀fs:List (Str × V),f∈(bS f v fs).map (·.1)∧∀g,g∈fs.map (·.1)→g∈(bS f v fs).map (·.1)
 | []=>⟨by simp [bS],fun g h=>by simp at h⟩
 | (k,x)::r=>by
  obtain⟨i1,i2⟩:=rN f v r
  rw [show bS f v ((k,x)::r)=(if k=f then (k,v)::r else (k,x)::bS f v r) from rfl]
  by_cases hk:k=f
  ·rw [if_pos hk]
   subst hk
   exact⟨by simp,fun g h=>by simpa using h⟩
  ·rw [if_neg hk]
   refine⟨?_,fun g h=>?_⟩
   ·rw [aa5]
    exact aam _ i1
   ·rw [aa5] at h ⊢
    rcases aaN.mp h with e|e
    ·exact aaN.mpr (.inl e)
    ·exact aam _ (i2 g e)
theorem sV (f:Str) (v:V):∀fs:List (Str × V),(bS f v fs).length≤fs.length+1
 | []=>by simp [bS]
 | (k,x)::r=>by
  have ih:=sV f v r
  rw [show bS f v ((k,x)::r)=(if k=f then (k,v)::r else (k,x)::bS f v r) from rfl]
  by_cases hk:k=f
  ·rw [if_pos hk,aar,aar];omega
  ·rw [if_neg hk,aar,aar];omega
theorem kZ.some_of {v:V} {o:Option aai} (r:kZ (some v) o):∃u,o=some u∧RelV v u:=by
 cases o with
 | none=>exact(show False from r).elim
 | some u=>exact⟨u,rfl,r⟩
theorem kZ.none_of {o:Option aai} (r:kZ none o):o=none:=by
 cases o with
 | none=>rfl
 | some u=>exact(show False from r).elim
theorem GW {v:V} {u:aai} (r:RelV v u):aeX u=true:=by
 cases v with
 | tok x t=>cases (show u=abN x t from r);rfl
 | cB=>cases (show u=aeM from r);rfl
 | bl b=>cases (show u=adF b from r);rfl
 | int i=>obtain⟨t,e⟩:=(show ∃t,u=ae0 i t from r);cases e;rfl
 | str x=>obtain⟨t,e⟩:=(show ∃t,u=abN x t from r);cases e;rfl
 | Io b=>obtain⟨t,e⟩:=(show ∃t,u=Value.bytes b t from r);cases e;rfl
 | UC b=>obtain⟨t,e⟩:=(show ∃t,u=Value.float b t from r);cases e;rfl
 | ref a=>cases (show u=abh a from r);rfl
 | ty n=>cases (show u=Value.type n from r);rfl
section
variable {P:aaS} {w:abg} {H H':Hp} {h h':Heap} {a C dx:aaB} {fs fs':List (Str × V)}
theorem zO (hok:ly P w H h) (e:H a=some (.ins C dx fs)):∃mA,Eo h a dx C mA∧(∀f,kZ (fs.lookup f) (mA f))∧aeQ mA (fs.map (·.1))∧fs.length≤1000∧H dx=some (.own a):=by
 obtain⟨d,z,ne,ob,mA,n,r,q⟩:=(show dy P w H h a (.ins C dx fs) from hok a _ e)
 exact⟨mA,⟨ob,n,ne⟩,r,q,z,d⟩
end
structure Ec (K:aae) (C:aaB):Prop where
 pg:abS K C acf=true
 hd:abX K C=true
 po:ab5 K C=true
 sa:abV K (.ref C) "__setattr__"=some (some (.builtin "object.__setattr__"))
theorem Ec.get {K:aae} {C:aaB} (c:Ec K C) (f:Str):abS K C f=true:=c.pg
def da (K:aae) (C:aaB) (f:Str):Prop:=abV K (.ref C) f=some none
theorem da.RG {K:aae} {C:aaB} {f:Str} (n:da K C f):ad7 K C f=some none:=by
 unfold ad7
 rw [show abV K (.ref C) f=some none from n]
 rfl
structure Meth (K:aae) (C:aaB) (m:Str) (f:aaB):Prop where
 at_:abV K (.ref C) m=some (some (.ref f))
 fn:aeR K (.ref f)=true
 kp:ab2 K (.ref f)=true
section
variable {X:Cx} {pins:List (aaB × Obj)} {σ:St} {H:Hp} {s:aan} {a C dx:aaB} {fs:List (Str × V)} {f:Str} {v:V} {A:abi} {E:aai→aan→Prop}
theorem getattr_ok {b:Bool} {Q:aai→aan→Prop} (I:Inv X pins σ H s) (e:H a=some (.ins C dx fs)) (c:Ec X.K C) (n:da X.K C f) (l:fs.lookup f=some v)
  (h:∀u s',Inv X pins σ H s'→RelV v u→Q u s'):aa8 (model X.prog X.w) A (getAttr (.ref a) f b) Q E s:=by
 obtain⟨mA,O,r,_,_,_⟩:=zO I.hok e
 obtain⟨u,hu,ru⟩:=kZ.some_of (v:=v) (o:=mA f) (by rw [← l];exact r f)
 exact get_map I.zG O (c.get f) c.hd n hu (GW ru) (h u _ (I.tok _) ru)
theorem jy {m:Str} {g:aaB} {pl:Sem Bool} {Q:aai × List aai→aan→Prop} (I:Inv X pins σ H s) (e:H a=some (.ins C dx fs)) (c:Ec X.K C) (k:Meth X.K C m g) (l:fs.lookup m=none)
  (h:Q (.ref g,[.ref a]) s):aa8 (model X.prog X.w) A (getMethod (.ref a) m pl) Q E s:=by
 obtain⟨mA,O,r,_,_,_⟩:=zO I.hok e
 have hn:mA m=none:=kZ.none_of (by rw [← l];exact r m)
 exact IP I.zG O (c.get m) k.at_ k.fn hn h
theorem Ep {y:V} {u:aai} {Q:Unit→aan→Prop} (I:Inv X pins σ H s) (e:H a=some (.ins C dx fs)) (c:Ec X.K C) (n:da X.K C f) (hl:fs.length<1000) (ry:RelV y u)
  (h:∀s',Inv X pins σ (upd H a (.ins C dx (bS f y fs))) s'→Q () s'):aa8 (model X.prog X.w) A (setAttr (.ref a) f u) Q E s:=by
 obtain⟨mA,O,r,wi,_,ho⟩:=zO I.hok e
 have hz:(fs.map (·.1)).length≤aaj:=by rw [Lm9,aax];omega
 refine LH I.zG O c.sa c.po n.RG c.hd wi hz fun h' O' sb=>h _ ?_
 have hd:∃o,h'.get? dx=some o:=let ⟨o,_,_,e',_⟩:=O'.ns;⟨o,e'⟩
 refine I.write (x:=a) (e:=dx) (by rw [e];exact adH) (.inr ho) (fun b q hb z=>(sb.2 b hb).trans z) hd ?_
 refine⟨by rw [aH O.ne];exact ho,?_,O.ne,O'.obj,_,O'.ns,fun g=>?_,fun g hg=>?_⟩
 ·have:=sV f y fs;omega
 ·show kZ ((bS f y fs).lookup g) (if g=f then some u else mA g)
  rw [a5]
  by_cases q:g=f
  ·rw [if_pos q,if_pos q];exact ry
  ·rw [if_neg q,if_neg q];exact r g
 ·by_cases q:g=f
  ·rw [q];exact(rN f y fs).1
  ·refine(rN f y fs).2 g (wi g fun z=>hg ?_)
   show(if g=f then some u else mA g)=none
   rw [if_neg q];exact z
theorem Inv.made (I:Inv X pins σ H s):Inv X pins σ (upd (upd H s.heap.objs.size (.own (s.heap.objs.size+1))) (s.heap.objs.size+1) (.ins C s.heap.objs.size []))
  { s with heap:=(s.heap.push abI).push (abZ C s.heap.objs.size) }:=by
 have e1:(s.heap.push abI).get? s.heap.objs.size=some abI:=abe s.heap rfl
 have e2:((s.heap.push abI).push (abZ C s.heap.objs.size)).get? (s.heap.objs.size+1)=some (abZ C s.heap.objs.size):=by
  have:=abe (s.heap.push abI) (o:=abZ C s.heap.objs.size) rfl
  rwa [aem] at this
 have e3:(s.heap.push abI).Ns s.heap.objs.size (fun _=>none):=⟨abI,#[],_,e1,rfl,(fun e he=>absurd he (by simp)),fun _=>rfl⟩
 have I1:=I.laid (a:=s.heap.objs.size) (o:=.own (s.heap.objs.size+1)) (h':=s.heap.push abI) (t':=s.toks) (fun b u q=>aaE _ q) (aaz _) ⟨_,e1⟩
 refine I1.laid (a:=s.heap.objs.size+1) (o:=.ins C s.heap.objs.size []) (t':=s.toks) (fun b u q=>aaE _ q) (Nat.le_of_eq (aem _ _)) ?_
 have ne:s.heap.objs.size≠s.heap.objs.size+1:=abd (Nat.lt_succ_self _)
 refine⟨by rw [aH ne,ae],abt _,ne,e2,fun _=>none,(Heap.Ns1.of_empty e3).at fun o q=>aaE _ q,fun _=>adH,fun y hy=>absurd rfl hy⟩
theorem attr_of {prog:aaS} {w:abg} {env:Env} {e:Expr} {f:Str} {pos:Pos} {s:aan} {Q:aai→aan→Prop} (hb:attributeBase e f env (eval e env)=eval e env)
  (h:aa8 (model prog w) A (eval e env) (fun o s₁=>aa8 (model prog w) A (getAttr o f true) Q E s₁) E s):aa8 (model prog w) A (eval (.Attribute e f pos) env) Q E s :=
 Attribute_any_ h (by rw [arm_eval_Attribute,hb])
end
def tFld (K:aae) (ta:TE) (f:Str):TE:=fun σ H Q=>ta σ H fun x H1=>∃a C dx fs v,x=.ref a∧H1 a=some (.ins C dx fs)∧Ec K C∧da K C f∧fs.lookup f=some v∧Q v H1
def Wb (K:aae) (ta tv:TE) (f:Str):TS:=fun D σ H=>tv σ H fun y H1=>ta σ H1 fun x H2=>∃a C dx fs,x=.ref a∧H2 a=some (.ins C dx fs)∧Ec K C∧da K C f∧fs.length<1000 ∧
 D.nx σ (upd H2 a (.ins C dx (bS f y fs)))
section
variable {X:Cx} {o e value:Expr} {f:Str} {pos pos' RH:Pos} {ta tv:TE}
theorem pe_fld (he:PE X e ta) (hb:attributeBase e f X.env (eval e X.env)=eval e X.env):PE X (.Attribute e f pos) (tFld X.K ta f):=by
 intro pins s σ H Q I h
 refine attr_of hb (thn (he pins s σ H _ I h) fun u s1 ⟨x,H1,I1,rx,a,C,dx,fs,v,ex,ea,c,n,l,q⟩=>?_)
 subst ex
 obtain rfl:u=abh a:=rx
 exact getattr_ok I1 ea c n l fun u' s2 I2 ru=>⟨v,H1,I2,ru,q⟩
theorem ps_fld (ha:PE X o ta) (hv:PE X value tv) (hs:swapsWith value (some (.Attribute o f pos')) pos.line X.env=pure false):PS X (.Assign [.Attribute o f pos'] value pos) (Wb X.K ta tv f):=by
 intro pins s σ H D I h
 refine plainObj_wpAny_Assign_Attribute (thn (hv pins s σ H _ I h) fun u s1 ⟨y,H1,I1,ry,q⟩=>thn (ha pins s1 σ H1 _ I1 q) fun ov s2 ⟨x,H2,I2,rx,a,C,dx,fs,ex,ea,c,n,l,q2⟩=>?_) hs
 subst ex
 obtain rfl:ov=abh a:=rx
 exact Ep I2 ea c n l ry fun s3 I3=>⟨σ,_,I3,q2⟩
theorem NH {pl:Sem Bool} {m:Str} {apos:Pos} {args:List Expr} {pins:List (aaB × Obj)} {s:aan} {σ:St} {H:Hp} {Q:aai→aan→Prop} {te:TE} (he:PE X e te) (I:Inv X pins σ H s)
  (h:te σ H fun x H1=>∃a C dx fs g,x=.ref a∧H1 a=some (.ins C dx fs)∧Ec X.K C∧Meth X.K C m g∧fs.lookup m=none ∧
   ∀s1,Inv X pins σ H1 s1→aa8 (model X.prog X.w) X.A (callWith pos (.ref g) [.ref a] (backTo pos (starEach args X.env)) (backToKw pos (keywordEach [] X.env))) Q X.xe s1)
  (ht:eval (.Call (.Attribute e m apos) args [] pos) X.env=(do
   let ov ← eval e X.env
   standAt apos.atName
   let (f,first) ← holding [ov] (getMethod ov m pl)
   callWith pos f first (backTo pos (starEach args X.env)) (backToKw pos (keywordEach [] X.env)))) :
  aa8 (model X.prog X.w) X.A (eval (.Call (.Attribute e m apos) args [] pos) X.env) Q X.xe s:=by
 refine acn (pl:=pl) (thn (he pins s σ H _ I h) fun u s1 ⟨x,H1,I1,rx,a,C,dx,fs,g,ex,ea,c,k,l,q⟩=>?_) ht
 subst ex
 obtain rfl:u=abh a:=rx
 exact jy I1 ea c k l (q s1 I1)
end
section
variable {X:Cx} {pins:List (aaB × Obj)} {σ:St} {H:Hp} {s:aan} {A:abi} {E:aai→aan→Prop} {Q:aai→aan→Prop} {c:aai} {b:Bool}
end
end L2
namespace L2
open PySem PySem.Spec PyProof.Rows
structure dR (k:Nat) (A:abi):Prop where
 hd:A.handled=none
 dp:A.depth+3 * k+5<recursionLimit
 un:A.units+16 * k+200<cLine
 gd:A.guards=some []
theorem dR.mono {j k:Nat} {A:abi} (r:dR k A) (h:j≤k):dR j A:=⟨r.hd,by have:=r.dp;omega,by have:=r.un;omega,r.gd⟩
theorem dR.deeper {k:Nat} {A:abi} (r:dR (k+1) A) (env:Env):dR k (A.deeper env) :=
 ⟨r.hd,by have:=r.dp;show A.depth+1+3 * k+5<_;omega,by have:=r.un;show A.units+3+16 * k+200<_;omega,r.gd⟩
theorem Er {A:abi} {C:aaB} {us:List aai} {kw:List (Str × aai)}:(A.under (.builtin "type.__call__" ⟨.ref C::us,kw⟩)).depth=A.depth+1:=by
 first|rfl|simp [ad8,Code.weight,Code.isCreation,Code.isGuard,Code.isCaller,Code.frames,aeS,guardIds]
theorem Es {A:abi} {C:aaB} {us:List aai} {kw:List (Str × aai)}:(A.under (.builtin "type.__call__" ⟨.ref C::us,kw⟩)).units=A.units+1:=by
 first|rfl|simp [ad8,Code.cUnits,Code.frames,aeS]
theorem Ci {A:abi} {C:aaB} {us:List aai} {kw:List (Str × aai)}:(A.under (.builtin "type.__call__" ⟨.ref C::us,kw⟩)).guards=A.guards:=by
 first|rfl|simp [ad8,pushGuards,Code.guards,Code.isGuard,guardIds]
theorem dR.make {k:Nat} {A:abi} (r:dR (k+1) A) (C:aaB) (us:List aai) (kw:List (Str × aai)):dR k (A.under (.builtin "type.__call__" ⟨.ref C::us,kw⟩)) :=
 ⟨r.hd,by have:=r.dp;rw [Er];omega,by have:=r.un;rw [Es];omega,by rw [Ci];exact r.gd⟩
theorem dR.depth {k:Nat} {A:abi} (r:dR k A):A.depth<recursionLimit:=by have:=r.dp;omega
theorem dR.units {k:Nat} {A:abi} (r:dR k A):A.units+64<cLine:=by have:=r.un;omega
def IS:TA:=fun _ H Q=>Q [] H
def RI (ta:TE) (tr:TA):TA:=fun σ H Q=>ta σ H fun x H1=>tr σ H1 fun xs H2=>Q (x::xs) H2
section
variable {X:Cx} {e:Expr} {es:List Expr} {te:TE} {t:TA} {pos:Pos}
theorem ag:PA X [] IS:=fun _ _ _ _ H Q I h=>Calls.spliced_nil ⟨[],H,I,.nil,h⟩
theorem aa (ha:PE X e te) (hr:PA X es t) (hs:starEach (e::es) X.env=(false,eval e X.env)::starEach es X.env:=by rfl):PA X (e::es) (RI te t):=by
 intro pos pins s σ H Q I h
 rw [hs]
 show aa8 _ _ (spliced ((false,eval e X.env)::backTo pos (starEach es X.env))) _ _ s
 refine adx (thn (ha pins s σ H _ I h) fun u s1 ⟨x,H1,I1,r1,q1⟩=>?_)
 exact thn (hr pos pins s1 σ H1 _ I1 q1) fun us s2 ⟨xs,H2,I2,r2,q2⟩=>⟨x::xs,H2,I2,.cons r1 r2,q2⟩
def Wc (t:TA):TE:=fun σ H Q=>t σ H fun xs H1=>xs.length≤aaj∧∀p,H1 p=none→Q (.ref p) (upd H1 p (.tup xs))
def Wd (t:TA):TE:=fun σ H Q=>t σ H fun xs H1=>xs.length≤aaj∧∀p,H1 p=none→Q (.ref p) (upd H1 p (.lst xs))
theorem bD {x1} (h:PA X es t):PE X (.Tuple es x1 pos) (Wc t):=by
 intro pins s σ H Q I hq
 refine wpAny_Tuple_spliced (thn (h pos pins s σ H _ I hq) fun us s1 ⟨xs,H1,I1,r,z,q⟩=>⟨by rw [← r.length];exact z,?_⟩)
 have hf:H1 s1.heap.objs.size=none:=I1.hok.fresh (aaz _)
 refine⟨.ref s1.heap.objs.size,upd H1 s1.heap.objs.size (.tup xs),I1.laid (t':=s1.toks) (fun b u e=>aaE _ e) (aaz _) ?_,rfl,q _ hf⟩
 exact⟨z,us,r,⟨_,abe _ rfl,rfl,_,rfl⟩⟩
theorem aV (h:PA X es t):PE X (.List es pos) (Wd t):=by
 intro pins s σ H Q I hq
 refine wpAny_List_spliced (thn (h pos pins s σ H _ I hq) fun us s1 ⟨xs,H1,I1,r,z,q⟩=>⟨by rw [← r.length];exact z,?_⟩)
 have hf:H1 s1.heap.objs.size=none:=I1.hok.fresh (aaz _)
 refine⟨.ref s1.heap.objs.size,upd H1 s1.heap.objs.size (.lst xs),I1.laid (t':=s1.toks) (fun b u e=>aaE _ e) (aaz _) ?_,rfl,q _ hf⟩
 exact⟨z,us,0,r,abe _ rfl⟩
end
abbrev Sp:=List V→Hp→VK→XK→Prop
abbrev GX:=List Env→Hp→aan→XK→aai→aan→Prop
structure Et (P:aaS) (w:abg) (K:aae) (mg:Str→Option aai) (base:Heap) (A:abi) (outer:List Env) (s:aan) (H:Hp):Prop where
 frames:A.frames=some outer
 mod:Mod K mg base
 bs:∀b o,base.get? b=some o→s.heap.get? b=some o∧H b=none
 Lj:base.objs.size≤s.heap.objs.size
 pG:s.heap.FunFrames base outer
 Nz:∀b∈g9 outer,H b=none
 hok:ly P w H s.heap
 bare:AllBare s.gens
def CE (outer:List Env) (P:aaS) (w:abg) (H:Hp) (s:aan) (Q:VK) (u:aai) (s':aan):Prop :=
 ∃v H',s'.os=s.os∧AllBare s'.gens∧Un (g9 outer) [] H H' s.heap s'.heap∧ly P w H' s'.heap∧RelV v u∧Q v H'
def CR (CX:GX) (outer:List Env) (P:aaS) (w:abg) (H:Hp) (s:aan) (Q:VK) (E:XK) (r:Result) (s':aan):Prop :=
 match r with
 | .ok (.ret u)=>CE outer P w H s Q u s'
 | .ok _=>False
 | .error e=>CX outer H s E e s'
structure a4 (P:aaS) (w:abg) (K:aae) (mg:Str→Option aai) (base:Heap) (CX:GX) (k:Nat) (f:aaB) (fd:aa9) (ps:List Str) (sp:Sp):Prop where
 len:∀vs H Q E,sp vs H Q E→vs.length=ps.length
 run:∀(A:abi) (outer:List Env) (s:aan) (H:Hp) (args:Args) (us:List aai) (vs:List V) (Q:VK) (E:XK),dR k A→Et P w K mg base A outer s H→BindsTo s fd args (ps.zip us)→Vals vs us→sp vs H Q E →
  codeAny (model P w) A (.call (.ref f) args) (CR CX outer P w H s Q E) s
theorem Et.make {P:aaS} {w:abg} {K:aae} {mg:Str→Option aai} {base:Heap} {A:abi} {outer:List Env} {s:aan} {H:Hp} (e:Et P w K mg base A outer s H) (C:aaB) (us:List aai) (kw:List (Str × aai)) :
  Et P w K mg base (A.under (.builtin "type.__call__" ⟨.ref C::us,kw⟩)) outer s H:=⟨by first|exact e.frames|(simpa [ad8,Code.envs,aeS,pushEnvs] using e.frames),e.mod,e.bs,e.Lj,e.pG,e.Nz,e.hok,e.bare⟩
section
variable {X:Cx} {pins:List (aaB × Obj)} {σ:St} {H:Hp} {s s':aan}
theorem Inv.OS (I:Inv X pins σ H s):Et X.prog X.w X.K X.mg X.base X.A X.stack s H :=
 ⟨I.ok.frames,I.ok.mod,I.bs,abj I.ok.Lj I.sz,I.stack,I.zI,I.hok,I.bare⟩
theorem Inv.after {Q:VK} {u:aai} (I:Inv X pins σ H s) (h:CE X.stack X.prog X.w H s Q u s'):EP X pins σ Q u s':=by
 obtain⟨v,H',os,bare,un,hok,r,q⟩:=h
 obtain⟨hh,g,d,t,os'⟩:=s'
 obtain rfl:os'=s.os:=os
 exact⟨v,H',I.call (h':=hh) (g':=g) (d':=d) (t':=t) (ch:=[]) un hok bare (fun b z=>absurd z (by simp)),r,q⟩
end
def IT (sp:Sp) (oA:List V) (E:XK) (t:TA):TE:=fun σ H Q=>t σ H fun vs H1=>sp (vs++oA) H1 Q E
def FF (C:aaB) (m:Str) (sp:Sp) (oA:List V) (E:XK) (ta:TE) (t:TA):TE:=fun σ H Q=>ta σ H fun x H1=>∃a dx fs,x=.ref a∧H1 a=some (.ins C dx fs)∧fs.lookup m=none ∧
 t σ H1 fun vs H2=>sp (x::(vs++oA)) H2 Q E
def NI (C:aaB) (sp:Sp) (oA:List V) (E:XK) (t:TA):TE:=fun σ H Q=>t σ H fun vs H1=>∀x dx,H1 x=none→H1 dx=none→dx≠x →
 sp (.ref x::(vs++oA)) (upd (upd H1 dx (.own x)) x (.ins C dx [])) (fun v H2=>v=.cB∧Q (.ref x) H2) E
def Binds (K:aae) (fd:aa9) (ps:List Str) (ds:List aai):Prop :=
 ∀(s:aan) (us:List aai),K.In s.heap→(us++ds).length=ps.length→BindsTo s fd ⟨us,[]⟩ (ps.zip (us++ds))
theorem Binds.all {K:aae} {fd:aa9} {ps:List Str} (h:∀us:List aai,us.length=ps.length→bindArgs fd ⟨us,[]⟩=pure (ps.zip us)):Binds K fd ps []:=fun s us _ hl=>by
 rw [aaZ] at hl ⊢
 exact .of_eq (h us hl)
def Passes (CX:GX) (X:Cx) (E:XK):Prop:=∀(pins:List (aaB × Obj)) (σ:St) (H:Hp) (s:aan) (e:aai) (s':aan),Inv X pins σ H s→CX X.stack H s E e s'→X.xe e s'
section
variable {X:Cx} {CX:GX} {k:Nat} {f C:aaB} {fd:aa9} {ps:List Str} {sp:Sp} {oA:List V} {ds:List aai} {E:XK} {x m:Str} {p pos apos:Pos} {e o:Expr} {es:List Expr} {ta:TE} {t:TA}
theorem zP {pins:List (aaB × Obj)} {σ:St} {H:Hp} {s:aan} {Q:VK} {us:List aai} {vs:List V} (F:a4 X.prog X.w X.K X.mg X.base CX k f fd ps sp) (hr:dR k X.A) (hb:Binds X.K fd ps ds) (hd:Vals oA ds) (hx:Passes CX X E)
  (I:Inv X pins σ H s) (r:Vals vs us) (h:sp (vs++oA) H Q E):aa8 (model X.prog X.w) X.A (call (.ref f) us) (EP X pins σ Q) X.xe s:=by
 have r2:Vals (vs++oA) (us++ds):=r.append hd
 have hl:(us++ds).length=ps.length:=by rw [← r2.length];exact F.len _ _ _ _ h
 refine wpAny_call (codeAny_mono (F.run X.A X.stack s H ⟨us,[]⟩ (us++ds) (vs++oA) Q E hr I.OS (hb s us I.zG hl) r2 h) fun r s' hq=>?_)
 cases r with
 | error e=>exact hx pins σ H s e s' I hq
 | ok fl =>
  cases fl with
  | ret u=>exact I.after hq
  | next=>exact abH hq
  | brk=>exact abH hq
  | cont=>exact abH hq
theorem FH (F:a4 X.prog X.w X.K X.mg X.base CX k f fd ps sp) (hr:dR k X.A) (hg:Gl X x) (hm:X.mg x=some (.ref f)) (hk:ab2 X.K (.ref f)=true) (hb:Binds X.K fd ps ds) (hd:Vals oA ds) (hx:Passes CX X E)
  (ha:PA X (e::es) t) (xm:(x == ("__debug__":Str))=false:=by decide) (he:starEach (e::es) X.env=(false,eval e X.env)::starEach es X.env:=by rfl) (hpl:(backTo pos (starEach es X.env)).any (·.1)=false:=by rfl) :
  PE X (.Call (.Name x p) (e::es) [] pos) (IT sp oA E t):=by
 intro pins s σ H Q I h
 refine wpAny_Call_Name_kw (m3 I hg hm ?_ xm)
 refine acJ (h₀:=X.base) I.ok.mod.Ny hk (thn (ha pos pins s σ H _ I h) fun us s1 ⟨vs,H1,I1,r,q⟩=>⟨I1.zG,?_⟩) he hpl
 exact zP F hr hb hd hx I1 r q
theorem LK {pl:Sem Bool} (he:PE X o ta) (c:Ec X.K C) (hm:Meth X.K C m f) (F:a4 X.prog X.w X.K X.mg X.base CX k f fd ps sp) (hr:dR k X.A) (hb:Binds X.K fd ps ds) (hd:Vals oA ds) (hx:Passes CX X E) (ha:PA X (e::es) t)
  (zQ:starEach (e::es) X.env=(false,eval e X.env)::starEach es X.env:=by rfl) (hpl:(backTo pos (starEach es X.env)).any (·.1)=false:=by rfl)
  (ht:eval (.Call (.Attribute o m apos) (e::es) [] pos) X.env=(do
   let ov ← eval o X.env
   standAt apos.atName
   let (f,first) ← holding [ov] (getMethod ov m pl)
   callWith pos f first (backTo pos (starEach (e::es) X.env)) (backToKw pos (keywordEach [] X.env))):=by rfl) :
  PE X (.Call (.Attribute o m apos) (e::es) [] pos) (FF C m sp oA E ta t):=by
 intro pins s σ H Q I h
 refine acn (pl:=pl) (thn (he pins s σ H _ I h) fun u s1 ⟨x,H1,I1,rx,a,dx,fs,ex,ea,l,q⟩=>?_) ht
 subst ex
 obtain rfl:u=abh a:=rx
 refine jy I1 ea c hm l ?_
 refine acJ (first:=[.ref a]) (h₀:=X.base) I.ok.mod.Ny hm.kp (thn (ha pos pins s1 σ H1 _ I1 q) fun us s2 ⟨vs,H2,I2,r,q2⟩=>⟨I2.zG,?_⟩) zQ hpl
 exact zP (us:=.ref a::us) (vs:=.ref a::vs) F hr hb hd hx I2 (.cons rfl r) q2
theorem IU {pl:Sem Bool} (he:PE X o ta) (c:Ec X.K C) (hm:Meth X.K C m f) (F:a4 X.prog X.w X.K X.mg X.base CX k f fd ps sp) (hr:dR k X.A) (hb:Binds X.K fd ps ds) (hd:Vals oA ds) (hx:Passes CX X E)
  (ht:eval (.Call (.Attribute o m apos) [] [] pos) X.env=(do
   let ov ← eval o X.env
   standAt apos.atName
   let (f,first) ← holding [ov] (getMethod ov m pl)
   callWith pos f first (backTo pos (starEach [] X.env)) (backToKw pos (keywordEach [] X.env))):=by rfl) :
  PE X (.Call (.Attribute o m apos) [] [] pos) (FF C m sp oA E ta IS):=by
 intro pins s σ H Q I h
 refine acn (pl:=pl) (thn (he pins s σ H _ I h) fun u s1 ⟨x,H1,I1,rx,a,dx,fs,ex,ea,l,q⟩=>?_) ht
 subst ex
 obtain rfl:u=abh a:=rx
 refine jy I1 ea c hm l ?_
 exact aeq (first:=[.ref a]) I1.zG hm.kp (zP (us:=[.ref a]) (vs:=[.ref a]) F hr hb hd hx I1 (.cons rfl .nil) q)
structure Mk (K:aae) (C f:aaB):Prop where
 makes:acm K C=true
 init:abV K (.ref C) "__init__"=some (some (.ref f))
 fn:aeR K (.ref f)=true
 kp:ab2 K (.ref C)=true
theorem IV {pins:List (aaB × Obj)} {σ:St} {H:Hp} {s:aan} {Q:VK} {us:List aai} {vs:List V} (M:Mk X.K C f) (F:a4 X.prog X.w X.K X.mg X.base CX k f fd ps sp) (hr:dR (k+1) X.A) (hb:Binds X.K fd ps ds) (hd:Vals oA ds)
  (hx:Passes CX X E) (I:Inv X pins σ H s) (r:Vals vs us)
  (h:∀x dx,H x=none→H dx=none→dx≠x→sp (.ref x::(vs++oA)) (upd (upd H dx (.own x)) x (.ins C dx [])) (fun v H2=>v=.cB∧Q (.ref x) H2) E) :
  aa8 (model X.prog X.w) X.A (call (.ref C) us) (EP X pins σ Q) X.xe s:=by
 have hq:=h (s.heap.objs.size+1) s.heap.objs.size (I.hok.fresh (Nat.le_succ _)) (I.hok.fresh (aaz _)) (abd (Nat.lt_succ_self _))
 have I2:=Inv.made (C:=C) I
 have r2:Vals (V.ref (s.heap.objs.size+1)::(vs++oA)) (abh (s.heap.objs.size+1)::(us++ds)):=.cons rfl (r.append hd)
 have hl:(abh (s.heap.objs.size+1)::us++ds).length=ps.length:=by
  have e:=r2.length
  rw [F.len _ _ _ _ hq] at e
  exact e.symm
 refine wpAny_call (IQ (f:=f) I.zG M.makes M.init (beq_iff_eq.mp M.fn) (codeAny_mono (F.run _ X.stack _ _ ⟨abh (s.heap.objs.size+1)::us,[]⟩ (abh (s.heap.objs.size+1)::(us++ds)) _ _ E (hr.make C us [])
  (I2.OS.make C us []) (hb _ (abh (s.heap.objs.size+1)::us) I2.zG hl) r2 hq) fun r s' hq'=>?_))
 cases r with
 | error e=>exact hx pins σ _ _ e s' I2 hq'
 | ok fl =>
  cases fl with
  | ret u =>
   obtain⟨v,H',I3,rv,ev,q3⟩:=I2.after hq'
   subst ev
   exact⟨rv,⟨V.ref (s.heap.objs.size+1),H',I3,rfl,q3⟩⟩
  | next=>exact abH hq'
  | brk=>exact abH hq'
  | cont=>exact abH hq'
theorem LL (M:Mk X.K C f) (F:a4 X.prog X.w X.K X.mg X.base CX k f fd ps sp) (hr:dR (k+1) X.A) (hg:Gl X x) (hm:X.mg x=some (.ref C)) (hb:Binds X.K fd ps ds) (hd:Vals oA ds) (hx:Passes CX X E)
  (ha:PA X (e::es) t) (xm:(x == ("__debug__":Str))=false:=by decide) (he:starEach (e::es) X.env=(false,eval e X.env)::starEach es X.env:=by rfl) (hpl:(backTo pos (starEach es X.env)).any (·.1)=false:=by rfl) :
  PE X (.Call (.Name x p) (e::es) [] pos) (NI C sp oA E t):=by
 intro pins s σ H Q I h
 refine wpAny_Call_Name_kw (m3 I hg hm ?_ xm)
 refine acJ (h₀:=X.base) I.ok.mod.Ny M.kp (thn (ha pos pins s σ H _ I h) fun us s1 ⟨vs,H1,I1,r,q⟩=>⟨I1.zG,?_⟩) he hpl
 exact IV M F hr hb hd hx I1 r q
end
section
variable {X:Cx} {CX:GX} {k:Nat} {f C:aaB} {fd:aa9} {ps ks:List Str} {sp:Sp} {E:XK} {x m:Str} {p pos apos acN:Pos} {e o:Expr} {es:List Expr} {kws:List Keyword} {te ta:TE} {t tk:TA} {nm:Option Str}
variable {g:List aai→List aai→List aai} {gV:List V→List V→List V}
end
structure aC (N P:List Str) (sc:Scope):Prop where
 kind:sc.kind=.function
 co:sc.isCoroutine=false
 gen:sc.isGenerator=false
 nd:N.Nodup
 pre:N.take P.length=P
 par:∀x∈P,sc.names.lookup x=some .local∨sc.names.lookup x=some .cell
 OT:∀y∈sc.names,y.2≠.free
theorem yF {kindOf:Str→Option NameKind} {x:Str}:∀{binds:List (Str × aai)} {m:Str→Option aai},(∀v,(x,v)∉binds)→bindL kindOf binds m x=m x
 | [],_,_=>rfl
 | (n,v)::r,m,h=>by
  unfold bindL
  rw [yF fun w hw=>h w (aam _ hw)]
  split
  ·have:x≠n:=by rintro rfl;exact h v aav
   simp [this]
  ·rfl
theorem yG {kindOf:Str→Option NameKind} {x:Str}:∀{binds:List (Str × aai)} {m:Str→Option aai},(∀v,(x,v)∉binds)→bindC kindOf binds m x=m x
 | [],_,_=>rfl
 | (n,v)::r,m,h=>by
  unfold bindC
  rw [yG fun w hw=>h w (aam _ hw)]
  split
  ·rfl
  ·have:x≠n:=by rintro rfl;exact h v aav
   simp [this]
theorem yH {kindOf:Str→Option NameKind} {x:Str} {v:aai}:∀{P:List Str} {vs:List aai} {i:Nat} {m:Str→Option aai},P.Nodup→P[i]?=some x→vs[i]?=some v→kindOf x=some .local →
  bindL kindOf (P.zip vs) m x=some v
 | [],_,_,_,_,h,_,_=>by simp at h
 | _::_,[],_,_,_,_,h,_=>by simp at h
 | p::P,w::vs,0,m,nd,h1,h2,hk=>by
  simp at h1 h2;subst h1;subst h2
  show bindL kindOf ((p,w)::P.zip vs) m p=_
  unfold bindL
  rw [yF fun v hv=>(adb.mp nd).1 (ad9 hv).1,if_pos hk]
  simp
 | p::P,w::vs,i+1,m,nd,h1,h2,hk=>by
  show bindL kindOf ((p,w)::P.zip vs) m x=_
  unfold bindL
  exact yH (i:=i) (adb.mp nd).2 (by simpa using h1) (by simpa using h2) hk
theorem yI {kindOf:Str→Option NameKind} {x:Str} {v:aai}:∀{P:List Str} {vs:List aai} {i:Nat} {m:Str→Option aai},P.Nodup→P[i]?=some x→vs[i]?=some v→kindOf x≠some .local →
  bindC kindOf (P.zip vs) m x=some v
 | [],_,_,_,_,h,_,_=>by simp at h
 | _::_,[],_,_,_,_,h,_=>by simp at h
 | p::P,w::vs,0,m,nd,h1,h2,hk=>by
  simp at h1 h2;subst h1;subst h2
  show bindC kindOf ((p,w)::P.zip vs) m p=_
  unfold bindC
  rw [yG fun v hv=>(adb.mp nd).1 (ad9 hv).1,if_neg hk]
  simp
 | p::P,w::vs,i+1,m,nd,h1,h2,hk=>by
  show bindC kindOf ((p,w)::P.zip vs) m x=_
  unfold bindC
  exact yI (i:=i) (adb.mp nd).2 (by simpa using h1) (by simpa using h2) hk
def start (N:List Str) (vs:List V):St:=vs.map some++abL (N.length - vs.length) none
def Eu (CX:GX) (P:aaS) (w:abg) (K:aae) (mg:Str→Option aai) (base:Heap) (N:List Str) (qual:Str) (scope:Scope) (f:aaB) (cd:aai) (A:abi) (outer:List Env) (s:aan) (H:Hp) (E:XK):Cx where
 prog:=P
 w:=w
 K:=K
 mg:=mg
 base:=base
 A:=A.deeper (envOfC qual scope s.heap.objs.size f cd)
 N:=N
 s₀:=s
 H₀:=H
 env:=envOfC qual scope s.heap.objs.size f cd
 outer:=outer
 stack:=envOfC qual scope s.heap.objs.size f cd::outer
 ex:=[]
 calm:=true
 fn:=fun _=>true
 pn:=[]
 xe:=fun e s'=>aa8 (model P w) (A.deeper (envOfC qual scope s.heap.objs.size f cd)) (leaving (envOfC qual scope s.heap.objs.size f cd) e) (fun _ IW=>CX outer H s E e IW) (fun e' IW=>CX outer H s E e' IW) s'
theorem Cj {sc:Scope} {n:Nat} {x:Str} (h:sc.names.lookup x=some .cell):∃c,(cellsFrom n sc.names []).lookup x=some c:=by
 have q:=adY sc.names n [] (.inl h)
 exact abQ.mp q
theorem GY {CX:GX} {P:aaS} {w:abg} {K:aae} {mg:Str→Option aai} {base:Heap} {N ps:List Str} {qual:Str} {scope:Scope} {f:aaB} {cd:aai} {A:abi} {outer:List Env} {s s1:aan} {H:Hp} {E:XK} {us:List aai} {vs:List V}
  (S:aC N ps scope) (hd:A.handled=none) (e0:Et P w K mg base A outer s H) (hl:vs.length=ps.length) (r:Vals vs us)
  (x:InCallC s s.heap.objs.size (bindL (envOfC qual scope s.heap.objs.size f cd).kindOf (ps.zip us) fun _=>none) (cellsFrom (s.heap.objs.size+1) scope.names []) (bindC (envOfC qual scope s.heap.objs.size f cd).kindOf (ps.zip us) fun _=>none) s1) :
  Inv (Eu CX P w K mg base N qual scope f cd A outer s H E) [] (start N vs) H s1:=by
 have hpl:ps.length≤N.length:=by have:=congrArg aco S.pre;rw [aaA] at this;omega
 obtain⟨h1,tk,rfl,hk⟩:=x.done
 have RJ:∀b:aaB,b∉(Eu CX P w K mg base N qual scope f cd A outer s H E).ex:=fun b z=>absurd (show b∈([]:List aaB) from z) (by simp)
 refine⟨⟨e0.mod,S.kind,rfl,rfl,aaz _,fun y z c h1 h2=>?_,fun y hy=>?_,fun y c _ h=>?_,fun _=>hd,Around.frames_deeper e0.frames,.inr ⟨rfl,rfl⟩,fun b z=>absurd z (RJ b),e0.bs,e0.Lj,fun b _ _=>RJ b,fun b z=>absurd z (RJ b),e0.pG,e0.Nz⟩,
  rfl,e0.bare,Un.kept hk,⟨_,x.toInCall.ns,fun i y v h1 h2 h3=>?_⟩,fun y c h=>⟨_,x.cell y c h⟩,e0.hok.fresh (aaz _),fun y c h=>?_,fun p hp=>absurd (show p∈([]:List (aaB × Obj)) from hp) (by simp),e0.hok.kept hk,?_⟩
 ·exact name_of_addr x.apart (abw h1) (abw h2)
 ·have hy:scope.names.lookup y=some .cell∨scope.names.lookup y=some .free:=hy
  rcases hy with hy|hy
  ·exact Cj hy
  ·exact absurd rfl (S.OT _ (abw hy))
 ·exact ad5 (x.above y c (abw h))
 ·have hi:i<vs.length:=by
   unfold start at h2
   by_cases hi:i<vs.length
   ·exact hi
   ·rw [adn (by simpa using hi)] at h2
    rw [List.getElem?_replicate] at h2
    split at h2 <;> cases h2
  have ha:vs[i]?=some v:=by
   unfold start at h2
   rw [List.getElem?_append_left (by simpa using hi),aa6] at h2
   cases e:vs[i]? with
   | none=>rw [e] at h2;cases h2
   | some a=>rw [e] at h2;cases h2;rfl
  obtain⟨u,hu,rv⟩:=r.get ha
  have hp:ps[i]?=some y:=by
   rw [← S.pre,List.getElem?_take_of_lt (by omega)];exact h1
  have ndP:ps.Nodup:=by rw [← S.pre];exact S.nd.sublist (List.take_sublist _ _)
  refine⟨u,rv,?_⟩
  rcases S.par y (abB hp) with k|k
  ·exact .inl ⟨k,yH ndP hp hu k⟩
  ·obtain⟨c,e⟩:=Cj (n:=s.heap.objs.size+1) k
   refine .inr ⟨.inl k,c,e,?_⟩
   have q:=x.cell y c e
   rw [yI ndP hp hu (by show scope.names.lookup y≠_;rw [k];decide)] at q
   exact q
 ·exact e0.hok.fresh (ad5 (x.above y c (abw h)))
 ·unfold start
  show _=N.length
  rw [aag,Lm9,List.length_replicate]
  omega
theorem NJ {CX:GX} {P:aaS} {w:abg} {K:aae} {mg:Str→Option aai} {base:Heap} {k:Nat} {f:aaB} {name qual:Str} {params:Arguments} {body:List Stmt} {scope:Scope} {dV kV doc pm cJ ct oc:aai} {an od:Option aaB}
  {LM:Array (Option aai)} {N ps:List Str} {sp:Sp} (lk:K.lookup f=some ⟨oc,od,.func (aca name qual params body scope dV kV doc pm an cJ ct),LM⟩) (hcd:adD K cJ qual=true) (S:aC N ps scope)
  (len:∀vs H Q E,sp vs H Q E→vs.length=ps.length)
  (Ck:∀(A:abi) (outer:List Env) (s:aan) (H:Hp) (vs:List V) (Q:VK) (E:XK),dR k (A.deeper (envOfC qual scope s.heap.objs.size f cJ))→sp vs H Q E →
   ∃t,Cf (Eu CX P w K mg base N qual scope f cJ A outer s H E) body t∧t { nx:=fun _ H'=>Q .cB H',rt:=Q } (start N vs) H) :
  a4 P w K mg base CX (k+1) f (aca name qual params body scope dV kV doc pm an cJ ct) ps sp:=by
 refine⟨len,fun A outer s H args us vs Q E hr e0 hb r Lm=>?_⟩
 have hl:=len _ _ _ _ Lm
 have KX:K.In s.heap:=e0.mod.Ny.keeps fun b o e=>(e0.bs b o e).1
 have lim:s.heap.NoLimit:=e0.mod.nolimit.keeps fun b o e=>(e0.bs b o e).1
 have hkind:∀y∈ps.zip us,scope.names.lookup y.1=some .local∨(scope.names.lookup y.1=some .cell∧((cellsFrom (s.heap.objs.size+1) scope.names []).lookup y.1).isSome=true):=fun⟨n,v⟩ hy=>by
  rcases S.par n (ad9 hy).1 with q|q
  ·exact .inl q
  ·exact .inr ⟨q,adY _ _ _ (.inl q)⟩
 refine codeAny_call_function hr.depth (KX _ _ lk) rfl S.co S.gen rfl (PySem.W.codeRec_of KX hcd) (hb _ _ _ _ ?_)
 refine wpAny_newFunctionEnv_cells S.kind hkind fun env he s1 x=>?_
 subst he
 refine⟨lim.keeps x.toInCall.keep,codeAny_func ?_⟩
 obtain⟨t,ht,hq⟩:=Ck A outer s H vs Q E (hr.deeper _) Lm
 have I:Inv (Eu CX P w K mg base N qual scope f cJ A outer s H E) [] (start N vs) H s1:=GY S hr.hd e0 hl r x
 refine wpAny_mono (ht [] s1 (start N vs) H _ I hq) (fun fl s' hs=>?_) fun e s' hs=>hs
 have fin:∀{σ':St} {H':Hp} {v:V} {u:aai},Inv (Eu CX P w K mg base N qual scope f cJ A outer s H E) [] σ' H' s'→RelV v u→Q v H'→CE outer P w H s Q u s' :=
  fun {σ' H' v u} J rv q=>⟨v,H',J.os,J.bare,J.base,J.hok,rv,q⟩
 cases fl with
 | ret u =>
  obtain⟨v,σ',H',J,rv,q⟩:=hs
  exact fin J rv q
 | next =>
  obtain⟨σ',H',J,q⟩:=hs
  exact fin (v:=V.cB) (u:=aeM) J rfl q
 | brk =>
  obtain⟨_,_,_,q⟩:=hs
  exact abH q
 | cont =>
  obtain⟨_,_,_,q⟩:=hs
  exact abH q
end L2
namespace L2
open PySem PySem.Spec PyProof.Rows
section
variable {X:Cx} {x:Str} {p pos:Pos} {e:Expr} {es:List Expr} {t:TA} {id T:String} {r:List V→Hp→VK→Prop}
def tCB (r:List V→Hp→VK→Prop) (t:TA):TE:=fun σ H Q=>t σ H fun vs H1=>r vs H1 Q
theorem aK (hc:d8 X (.builtin id) r) (hg:Gl X x) (hm:X.mg x=none) (hv:bootBuiltins x=some (.builtin id)) (ha:PA X (e::es) t) (hn:x≠"__name__":=by decide) (xm:(x == ("__debug__":Str))=false:=by decide)
  (he:starEach (e::es) X.env=(false,eval e X.env)::starEach es X.env:=by rfl) (hpl:(backTo pos (starEach es X.env)).any (·.1)=false:=by rfl):PE X (.Call (.Name x p) (e::es) [] pos) (tCB r t):=by
 intro pins s σ H Q I h
 refine wpAny_Call_Name_kw (zJ I hg hm hv ?_ hn xm)
 exact PyProof.Rows.callWith_builtin1 (thn (ha pos pins s σ H _ I h) fun us s1 ⟨vs,H1,I1,r1,q1⟩=>hc pins s1 σ H1 vs us Q I1 r1 q1) he hpl
theorem cX (hc:d8 X (.type T) r) (hg:Gl X x) (hm:X.mg x=none) (hv:bootBuiltins x=some (.type T)) (ha:PA X (e::es) t) (hn:x≠"__name__":=by decide) (xm:(x == ("__debug__":Str))=false:=by decide)
  (he:starEach (e::es) X.env=(false,eval e X.env)::starEach es X.env:=by rfl) (hpl:(backTo pos (starEach es X.env)).any (·.1)=false:=by rfl):PE X (.Call (.Name x p) (e::es) [] pos) (tCB r t):=by
 intro pins s σ H Q I h
 refine wpAny_Call_Name_kw (zJ I hg hm hv ?_ hn xm)
 exact ac9 (thn (ha pos pins s σ H _ I h) fun us s1 ⟨vs,H1,I1,r1,q1⟩=>hc pins s1 σ H1 vs us Q I1 r1 q1) he hpl
end
end L2
namespace HT
open PySem PyProof.Rows
section
open PySem.SeqAt
open PySem.AutoSeq1 (wpAny_loadPart')
open PySem.MeetsSeq PySem.MeetsSeq2 PySem.MeetsSeq3
end
section
variable {prog:aaS} {w:abg} {A:abi} {E:aai→aan→Prop} {s:aan}
theorem LN {t b:aaB} {vs ws:List aai} {Q:aai→aan→Prop} (ht:IsTup s.heap t vs.toArray) (hb:IsTup s.heap b ws.toArray) (hv:vs≠[])
  (h1:ws=[]→Q (.ref t) s) (h2:ws≠[]→Q (.ref s.heap.objs.size) { s with heap:=s.heap.push { cls:=.type "tuple",data:=.seq (vs++ws).toArray } })
  (hsz:vs.length+ws.length≤aaj):aa8 (model prog w) A (binaryOp .Add (.ref t) (.ref b)) Q E s:=by
 obtain⟨⟨cls,dd,data,sl⟩,ho,hc,n,hd⟩:=id ht
 obtain⟨⟨We,UO,data2,QL⟩,OU,yJ,n2,hd2⟩:=id hb
 simp only at hc hd yJ hd2
 subst hc hd yJ hd2
 have e:vs.toArray++ws.toArray=(vs++ws).toArray:=by simp
 by_cases hw:ws=[]
 ·exact concat_meets ⟨_,ho,rfl⟩ ⟨_,OU,rfl⟩ noFill_tuple_add seq_tuple_add acU acK (acC _ _)
   (tuple_addW1 t b vs.toArray ws.toArray n n2 dd UO sl QL (by simpa using hv) (by simp [hw])) ⟨ho,OU,h1 hw⟩
 ·refine concat_meets ⟨_,ho,rfl⟩ ⟨_,OU,rfl⟩ noFill_tuple_add seq_tuple_add acU acK (acC _ _)
   (tuple_addW2 t b vs.toArray ws.toArray n n2 dd UO sl QL (by simpa using hv) (by simpa using hw) (by rw [aaH,aaH];exact hsz)) ⟨ho,OU,?_⟩
  rw [e]
  exact h2 hw
def dQ (n d:Nat):Option Int→Nat
 | none=>d
 | some v=>if v<0 then (v+(n:Int)).toNat else min v.toNat n
theorem IX (n d:Nat):dQ n d none=d:=rfl
theorem pK (n d k:Nat):dQ n d (some (k:Int))=min k n:=by
 show(if (k:Int)<0 then ((k:Int)+(n:Int)).toNat else min (k:Int).toNat n)=min k n
 rw [if_neg (by omega),abr]
theorem OV (n d:Nat) (hd:d≤n) (o:Option Int):dQ n d o≤n:=by
 cases o with
 | none=>exact hd
 | some v =>
  show(if v<0 then (v+(n:Int)).toNat else min v.toNat n)≤n
  by_cases hv:v<0
  ·rw [if_pos hv];omega
  ·rw [if_neg hv];exact Nat.min_le_right _ _
theorem FI (v:Int) (n d:Nat):(if v<0 then max (v+(n:Int)) 0 else min v (n:Int))=((dQ n d (some v):Nat):Int):=by
 show(if v<0 then max (v+(n:Int)) 0 else min v (n:Int))=(((if v<0 then (v+(n:Int)).toNat else min v.toNat n):Nat):Int)
 by_cases hv:v<0
 ·simp only [if_pos hv];omega
 ·simp only [if_neg hv];omega
theorem Ew (lo hi:Option Int) (n:Nat):acw lo hi 1 (n:Int)=(((dQ n 0 lo:Nat):Int),((dQ n n hi:Nat):Int)):=by
 have h1:¬ ((1:Int)<0):=by omega
 unfold acw
 simp only [h1,if_false]
 refine Prod.ext ?_ ?_
 ·cases lo with
  | none=>rfl
  | some v=>exact FI v n 0
 ·cases hi with
  | none=>rfl
  | some v=>exact FI v n n
theorem Ex (i j:Nat):ab3 (i:Int) (j:Int) 1=j - i:=by
 unfold ab3
 have h1:(1:Int) > 0:=by omega
 simp only [h1,if_true,Int.ediv_one]
 split <;> omega
theorem uW {v:aai} {o:Option Int} {Q:Option Int→aan→Prop} (p:IsPart v o) (h:Q o s):aa8 (model prog w) A (Builtin.Slice.slicePartIndex v) Q E s:=by
 cases p with
 | none=>exact slicePart_none h
 | int i t=>exact slicePart_int h
theorem i0 {sl:aaB} {vl vu:aai} {lo hi:Option Int} {n:Nat} {Q:Int × Int × Nat→aan→Prop} (hs:s.heap.IsSliceOf sl vl vu .none) (pl:IsPart vl lo) (pu:IsPart vu hi)
  (h:Q (((dQ n 0 lo:Nat):Int),1,dQ n n hi - dQ n 0 lo) s):aa8 (model prog w) A (adp (.ref sl) (pure (n:Int))) Q E s:=by
 obtain⟨os,LO,Ed,RK⟩:=id hs
 unfold adp Builtin.Slice.sliceFields
 refine aaw (aaw (wpAny_field LO RK (x:=vl) rfl (aaw (wpAny_field LO RK (x:=vu) rfl (aaw (wpAny_field LO RK (x:=.none) rfl (aaX ?_)))))))
 refine aaw (slicePart_none ?_)
 show aa8 _ _ (if ((1:Int) == 0)=true then _ else _) _ _ s
 rw [if_neg (by decide)]
 refine aaw (uW pl (aaw (uW pu (aaw (aaX ?_)))))
 show aa8 _ _ (match acw lo hi 1 (n:Int) with|(lo,hi)=>pure (lo,(1:Int),ab3 lo hi 1)) _ _ s
 rw [Ew lo hi n]
 show aa8 _ _ (pure (((dQ n 0 lo:Nat):Int),(1:Int),ab3 ((dQ n 0 lo:Nat):Int) ((dQ n n hi:Nat):Int) 1)) _ _ s
 rw [Ex]
 exact aaX h
theorem IY (xs:Array aai) (i k:Nat):((abC k).filterMap fun(m:Nat)=>xs[((i:Int)+(m:Int) * 1).toNat]?).toArray=((xs.toList.drop i).take k).toArray:=by
 have e:(fun(m:Nat)=>xs[((i:Int)+(m:Int) * 1).toNat]?)=fun m=>xs[i+m]?:=by
  funext m
  have:((i:Int)+(m:Int) * 1).toNat=i+m:=by omega
  rw [this]
 rw [e]
 have:=pick_run xs i k
 rw [List.filterMap_map] at this
 have e2:((fun x=>xs[x]?) ∘ fun x=>i+x)=fun m=>xs[i+m]?:=rfl
 rw [e2] at this
 rw [this]
theorem pL {t sl:aaB} {items:Array aai} {vl vu:aai} {lo hi:Option Int} {Q:aai→aan→Prop} (ht:IsTup s.heap t items) (hs:s.heap.IsSliceOf sl vl vu .none) (pl:IsPart vl lo) (pu:IsPart vu hi)
  (hw:¬ (dQ items.size 0 lo=0∧dQ items.size items.size hi=items.size))
  (h:Q (.ref s.heap.objs.size) { s with heap:=s.heap.push { cls:=.type "tuple",data:=.seq ((items.toList.drop (dQ items.size 0 lo)).take (dQ items.size items.size hi - dQ items.size 0 lo)).toArray } })
  (hsz:items.size≤aaj):aa8 (model prog w) A (getItem (.ref t) (.ref sl)) Q E s:=by
 have FJ:sizeOk (.seq ((items.toList.drop (dQ items.size 0 lo)).take (dQ items.size items.size hi - dQ items.size 0 lo)).toArray):=by
  show((items.toList.drop (dQ items.size 0 lo)).take (dQ items.size items.size hi - dQ items.size 0 lo)).toArray.size≤aaj
  rw [aaH,aaA,aba,acz]
  omega
 have hj:dQ items.size items.size hi≤items.size:=OV _ _ (aaz _) hi
 obtain⟨os,LO,Ed,RK⟩:=id hs
 have LP:s.TypeIs (.ref sl) "slice":=⟨os,LO,Ed⟩
 unfold getItem
 try with_reducible refine wpAny_holding ?_
 first|refine aaw (aaX ?_)|skip
 refine aaw (wpAny_sequenceKey ht.typeIs (by decide) ?_)
 refine aaw (wpAny_callSpecial?_slot (name:=aaf "__getitem__") ht.typeIs abo
  (wpAny_call_entry abo ht.typeIs entry_tuple_getitem ?_ (args_tuple_getitem _ _)))
 show aa8 _ _ (adq (.ref t) >>= _) _ _ s
 refine aaw (tupleItemsOf_ ht ?_)
 refine aaw (wpAny_typeOf LP ?_)
 rw [if_pos (by decide)]
 refine aaw (i0 hs pl pu ?_)
 have FL:¬ ((((dQ items.size 0 lo:Nat):Int) == 0 && (1:Int) == 1 && (dQ items.size items.size hi - dQ items.size 0 lo) == items.size)=true):=by
  intro q
  rw [aaW,aaW] at q
  have q1:((dQ items.size 0 lo:Nat):Int)=0:=eq_of_beq q.1.1
  have q2:dQ items.size items.size hi - dQ items.size 0 lo=items.size:=eq_of_beq q.2
  exact hw ⟨by omega,by omega⟩
 show aa8 _ _ (if (((dQ items.size 0 lo:Nat):Int) == 0 && (1:Int) == 1 && (dQ items.size items.size hi - dQ items.size 0 lo) == items.size)=true then _ else _) _ _ s
 rw [if_neg FL,IY]
 first
  | exact aaw (m:=ab6 _) (wpAny_newObj_type (aaX ⟨_,rfl,aaX h⟩) FJ)
  | exact aaw (m:=ab6 _) (wpAny_newObj_type (aaw (aaX (aaX ⟨_,rfl,aaX h⟩))) FJ)
  | exact aaw (aaw (m:=ab6 _) (wpAny_newObj_type (aaX (aaX ⟨_,rfl,aaX h⟩)) FJ))
  | exact aaw (aaw (m:=ab6 _) (wpAny_newObj_type (aaX ⟨_,rfl,aaX h⟩) FJ))
end
end HT
namespace L2
open PySem PySem.Spec PyProof.Rows
abbrev TO:=St→Hp→(Option Int→Hp→Prop)→Prop
def PO (X:Cx) (e:Option Expr) (t:TO):Prop :=
 ∀(pins:List (aaB × Obj)) (s:aan) (σ:St) (H:Hp) (Q:Option Int→Hp→Prop),Inv X pins σ H s→t σ H Q →
  aa8 (model X.prog X.w) X.A (evalPart e X.env) (fun u s'=>∃o H',Inv X pins σ H' s'∧IsPart u o∧Q o H') X.xe s
def LQ:TO:=fun _ H Q=>Q none H
def RL (t:TE):TO:=fun σ H Q=>t σ H fun x H1=>∃i,x=.int i∧Q (some i) H1
section
variable {X:Cx} {e:Expr} {te:TE} {lo hi:Option Expr} {tl th:TO} {pos p2:Pos}
theorem d4:PO X none LQ:=by
 intro pins s σ H Q I h
 rw [evalPart_none]
 exact aaX ⟨none,H,I,.none,h⟩
theorem cv (h:PE X e te):PO X (some e) (RL te):=by
 intro pins s σ H Q I hw
 rw [evalPart_some]
 refine thn (h pins s σ H _ I hw) fun u s1 ⟨x,H1,I1,r1,q1⟩=>?_
 obtain⟨i,rfl,q⟩:=q1
 obtain⟨t,rfl⟩:=r1
 exact⟨some i,H1,I1,.int i t,q⟩
def RM (X:Cx) (r:V→Option Int→Option Int→Hp→VK→Prop):Prop :=
 ∀(pins:List (aaB × Obj)) (s:aan) (σ:St) (H:Hp) (x:V) (v vl vu:aai) (lo hi:Option Int) (sl:aaB) (Q:VK),Inv X pins σ H s→RelV x v→s.heap.IsSliceOf sl vl vu .none→IsPart vl lo→IsPart vu hi→r x lo hi H Q →
  ∃T id,typeLookup (.type T) "__getitem__"=pure (some (.builtin id))∧s.TypeIs v T∧aa8 (model X.prog X.w) X.A (getItem v (.ref sl)) (EP X pins σ Q) X.xe s
def tSl (r:V→Option Int→Option Int→Hp→VK→Prop) (te:TE) (tl th:TO):TE:=fun σ H Q=>te σ H fun x H1=>tl σ H1 fun l H2=>th σ H2 fun u H3=>r x l u H3 Q
theorem cy {r:V→Option Int→Option Int→Hp→VK→Prop} (hr:RM X r) (he:PE X e te) (hl:PO X lo tl) (hu:PO X hi th):PE X (.Subscript e (.Slice lo hi none p2) pos) (tSl r te tl th):=by
 intro pins s σ H Q I h
 refine Subscript_ (thn (he pins s σ H _ I h) fun v s1 ⟨x,H1,I1,r1,q1⟩=>?_)
 refine wpAny_Slice (thn (hl pins s1 σ H1 _ I1 q1) fun vl s2 ⟨l,H2,I2,pl,q2⟩=>thn (hu pins s2 σ H2 _ I2 q2) fun vu s3 ⟨u,H3,I3,pu,q3⟩=>?_)
 rw [evalPart_none]
 refine aaX ?_
 have I4:Inv X pins σ H3 { s3 with heap:=s3.heap.push { cls:=.type "slice",data:=.fields #[vl,vu,.none] } }:=I3.kept (t':=s3.toks) fun b ob q=>aaE _ q
 obtain⟨T,id,hT,ht,hg⟩:=hr pins { s3 with heap:=s3.heap.push { cls:=.type "slice",data:=.fields #[vl,vu,.none] } } σ H3 x v vl vu l u s3.heap.objs.size Q I4 r1 (Heap.IsSliceOf.new ..) pl pu q3
 show aa8 (model X.prog X.w) X.A (subscriptTail e (.Slice lo hi none p2) v (.ref s3.heap.objs.size)) (EP X pins σ Q) X.xe { s3 with heap:=s3.heap.push { cls:=.type "slice",data:=.fields #[vl,vu,.none] } }
 exact tail_any (ops:=[.ref s3.heap.objs.size,v]) ht hT hg (by with_unfolding_all rfl)
def fQ (xs:List V) (lo hi:Option Int):List V:=(xs.drop (HT.dQ xs.length 0 lo)).take (HT.dQ xs.length xs.length hi - HT.dQ xs.length 0 lo)
theorem sW (xs:List V) (lo hi:Option Int):(fQ xs lo hi).length≤xs.length:=by
 unfold fQ
 rw [aaA,aba]
 omega
def Wf (K:aae):V→Option Int→Option Int→Hp→VK→Prop:=fun x lo hi H Q=>∃a xs,x=.ref a∧bT K H a xs ∧
 ¬ (HT.dQ xs.length 0 lo=0∧HT.dQ xs.length xs.length hi=xs.length)∧∀p,H p=none→Q (.ref p) (upd H p (.tup (fQ xs lo hi)))
theorem OW:RM X (Wf X.K):=by
 intro pins s σ H x v vl vu lo hi sl Q I rx hs pl pu h
 obtain⟨a,xs,rfl,hx,hw,q⟩:=h
 cases rx
 obtain⟨its,r,ht,hz⟩:=I.tuple hx
 have hlen:its.toArray.size=xs.length:=by rw [aaH];exact r.length.symm
 refine⟨"tuple",_,abo.lookup,ht.typeIs,?_⟩
 refine HT.pL ht hs pl pu (by rw [hlen];exact hw) ?_ (by rw [hlen];exact hz)
 rw [hlen]
 refine⟨.ref s.heap.objs.size,_,I.laid (t':=s.toks) (o:=.tup (fQ xs lo hi)) (fun b ob q=>aaE _ q) (aaz _) ?_,rfl,q _ (I.hok.fresh (aaz _))⟩
 exact⟨abj (sW xs lo hi) hz,_,(r.drop (HT.dQ xs.length 0 lo)).take (HT.dQ xs.length xs.length hi - HT.dQ xs.length 0 lo),IsTup.new _ _⟩
def RN (K:aae):R2:=fun x y H Q=>∃a b xs ys,x=.ref a∧y=.ref b∧bT K H a xs∧bT K H b ys∧xs≠[]∧xs.length+ys.length≤aaj ∧
 (ys=[]→Q (.ref a) H)∧(ys≠[]→∀p,H p=none→Q (.ref p) (upd H p (.tup (xs++ys))))
theorem Vals.uB {xs:List V} {us:List aai} (r:Vals xs us):us=[]↔xs=[]:=by
 cases r with
 | nil=>simp
 | cons _ _=>simp
theorem LR:rH X (binaryOp .Add) (RN X.K):=by
 intro pins s σ H x y v u Q I rx ry h
 obtain⟨a,b,xs,ys,rfl,rfl,ha,hb,hx,hz,q1,q2⟩:=h
 cases rx
 cases ry
 obtain⟨its,r1,p1,_⟩:=I.tuple ha
 obtain⟨dS,r2,p2,_⟩:=I.tuple hb
 refine HT.LN p1 p2 (fun z=>hx (r1.uB.mp z)) (fun z=>⟨.ref a,H,I,rfl,q1 (r2.uB.mp z)⟩) (fun z=>?_) (by rw [← r1.length,← r2.length];exact hz)
 refine⟨.ref s.heap.objs.size,_,I.laid (t':=s.toks) (o:=.tup (xs++ys)) (fun b ob q=>aaE _ q) (aaz _) ?_,rfl,q2 (fun w=>z (r2.uB.mpr w)) _ (I.hok.fresh (aaz _))⟩
 exact⟨by rw [aag];exact hz,_,r1.append r2,IsTup.new _ _⟩
end
end L2
namespace L2
open PySem PySem.Spec PyProof.Rows
def IZ (n:Nat) (i:Int):Option Nat:=if 0≤i then (if i<n then some i.toNat else none) else if -(n:Int)≤i then some (i+n).toNat else none
def lu {α:Type} (xs:List α) (i:Int):Option α:=(IZ xs.length i).bind fun j=>xs[j]?
theorem FO {n:Nat} {i:Int} {j:Nat} (h:IZ n i=some j):seqIndex? i n=some j∧j<n∧-(n:Int)≤i∧i<n:=by
 unfold IZ at h
 by_cases h0:0≤i
 ·rw [if_pos h0] at h
  by_cases h1:i<n
  ·rw [if_pos h1] at h
   have e:i.toNat=j:=aa7 h
   exact⟨by rw [seqIndex_of h0 h1,e],by omega,by omega,h1⟩
  ·rw [if_neg h1] at h;cases h
 ·rw [if_neg h0] at h
  by_cases h1:-(n:Int)≤i
  ·rw [if_pos h1] at h
   have e:(i+n).toNat=j:=aa7 h
   exact⟨by rw [seqIndex_neg (by omega) h1,e],by omega,h1,by omega⟩
  ·rw [if_neg h1] at h;cases h
theorem zR {α:Type} {xs:List α} {i:Int} {v:α} (h:lu xs i=some v):∃j,seqIndex? i xs.length=some j∧xs[j]?=some v∧j<xs.length∧-(xs.length:Int)≤i∧i<xs.length:=by
 unfold lu at h
 cases e:IZ xs.length i with
 | none=>rw [e] at h;cases h
 | some j =>
  rw [e] at h
  obtain⟨h1,h2,h3,h4⟩:=FO e
  exact⟨j,h1,h,h2,h3,h4⟩
theorem bz {α:Type} {xs:List α} {j:Nat} {v:α} (h:xs[j]?=some v):lu xs (j:Int)=some v:=by
 have hj:j<xs.length:=(aau.mp h).1
 have e:IZ xs.length (j:Int)=some j:=by
  unfold IZ
  rw [if_pos (by omega),if_pos (by omega)];simp
 unfold lu;rw [e];exact h
def LS (b:Expr):Prop:=∀o i,subscripted b false o i=operate [o,i] (getItem o i)
def UP (X:Cx) (r:R2):Prop :=
 ∀(value slice:Expr) (pins:List (aaB × Obj)) (s:aan) (σ:St) (H:Hp) (x y:V) (v u:aai) (Q:VK),Inv X pins σ H s→RelV x v→RelV y u→r x y H Q →
  subscripted slice false v u=operate [v,u] (getItem v u)→aa8 (model X.prog X.w) X.A (subscriptTail value slice v u) (EP X pins σ Q) X.xe s
def NK (X:Cx) (id:String) (r:V→List V→Hp→VK→Prop):Prop :=
 ∀(pins:List (aaB × Obj)) (s:aan) (σ:St) (H:Hp) (x:V) (xs:List V) (v:aai) (us:List aai) (Q:VK),Inv X pins σ H s→RelV x v→Vals xs us→r x xs H Q →
  aa8 (model X.prog X.w) X.A (call (.builtin id) (v::us)) (EP X pins σ Q) X.xe s
section
variable {X:Cx} {a b:Expr} {ta tb:TE} {pos:Pos}
theorem aq {r:R2} (hr:UP X r) (ha:PE X a ta) (hb:PE X b tb) (hs:LS b):PE X (.Subscript a b pos) (UN r ta tb):=by
 intro pins s σ H Q I h
 exact Subscript_ (ON ha hb I h fun v u s2 x y H2 I2 rx ry q=>hr a b pins s2 σ H2 x y v u Q I2 rx ry q (hs _ _))
def GZ (K:aae):R2:=fun x y H Q=>∃p xs i v,x=.ref p∧y=.int i∧aL K H p xs∧lu xs i=some v∧Q v H
def nA (K:aae):R2:=fun x y H Q=>∃p xs i v,x=.ref p∧y=.int i∧bT K H p xs∧lu xs i=some v∧Q v H
def Wg:R2:=fun x y H Q=>∃z i c,x=.str z∧y=.int i∧z.length≤aaj∧lu z.cps.toList i=some c∧Q (.str ⟨#[c]⟩) H
theorem aJ:UP X (GZ X.K):=by
 intro value slice pins s σ H x y v u Q I rx ry h hs
 obtain⟨p,xs,i,z,rfl,rfl,hq,he,q⟩:=h
 cases rx
 obtain⟨t,rfl⟩:=ry
 obtain⟨its,r,pl,hz⟩:=I.list hq
 obtain⟨j,h1,h2,h3,h4,h5⟩:=zR he
 obtain⟨w,ew,Ey⟩:=r.get h2
 have hl:=r.length
 have hn:=rM
 have fin:EP X pins σ Q w s:=⟨z,H,I,Ey,q⟩
 by_cases h0:0≤i
 ·have hj:i.toNat=j:=by
   rw [seqIndex_of h0 h5] at h1
   exact aa7 h1
  exact item_listR pl.isList h0 (by omega) (by rw [hj];simpa using ew) fin hs
 ·have hj:(i+(its.toArray.size:Int)).toNat=j:=by
   rw [seqIndex_neg (by omega) h4] at h1
   rw [aaH,← hl]
   exact aa7 h1
  exact subscriptTail_builtinR (x:=w) pl.isList.typeIs slot_list_getitem.lookup
   (wpAny_getItem_list_neg (Q:=fun r s'=>r=w∧EP X pins σ Q r s') pl.isList (by omega) (by rw [aaH] <;> omega) (by omega) (by rw [hj];simpa using ew) ⟨rfl,fin⟩) hs
theorem ar:UP X (nA X.K):=by
 intro value slice pins s σ H x y v u Q I rx ry h hs
 obtain⟨p,xs,i,z,rfl,rfl,hq,he,q⟩:=h
 cases rx
 obtain⟨t,rfl⟩:=ry
 obtain⟨its,r,pl,hz⟩:=I.tuple hq
 obtain⟨j,h1,h2,h3,h4,h5⟩:=zR he
 obtain⟨w,ew,Ey⟩:=r.get h2
 have hl:=r.length
 have hn:=rM
 have fin:EP X pins σ Q w s:=⟨z,H,I,Ey,q⟩
 exact subscriptTail_builtinR (x:=w) pl.typeIs slot_tuple_getitem.lookup
  (getItem_tuple (j:=j) (Q:=fun r s'=>r=w∧EP X pins σ Q r s') pl (by omega) (by omega) (by rw [aaH,← hl];exact h1) (by simpa using ew) ⟨rfl,fin⟩) hs
theorem fW:UP X Wg:=by
 intro value slice pins s σ H x y v u Q I rx ry h hs
 obtain⟨z,i,c,rfl,rfl,hz,he,q⟩:=h
 obtain⟨t,rfl⟩:=rx
 obtain⟨t',rfl⟩:=ry
 obtain⟨j,h1,h2,h3,h4,h5⟩:=zR he
 have hl:z.cps.toList.length=z.length:=by simp [Str.length]
 rw [hl] at h1 h4 h5
 have hn:=rM
 exact tail_any (typeIs_str s z t) slot_str_getitem.lookup (getItem_str (c:=c) (by
  have e1:decide (i < -(2 ^ 63:Int))=false:=decide_eq_false (by omega)
  have e2:decide (i≥2 ^ 63)=false:=decide_eq_false (by omega)
  rw [e1,e2,Bool.or_false]) (by rw [h1];simpa using h2) ⟨.str ⟨#[c]⟩,H,I.tok _,⟨_,rfl⟩,q⟩) hs
theorem Ez (its:List aai) (n j:Nat) (u:aai):adI (·.setIfInBounds j u) { cls:=.type "list",data:=.seq its.toArray n }={ cls:=.type "list",data:=.seq (its.set j u).toArray n }:=by
 simp [adI]
theorem Inv.lst {pins:List (aaB × Obj)} {σ:St} {H:Hp} {s:aan} {p:aaB} {xs:List V} (I:Inv X pins σ H s) (h:H p=some (.lst xs)) :
  ∃(its:List aai) (n:Nat),Vals xs its∧s.heap.get? p=some { cls:=.type "list",data:=.seq its.toArray n }∧xs.length≤aaj:=by
 obtain⟨z,its,n,r,e⟩:=I.hok p _ h
 exact⟨its,n,r,e,z⟩
theorem Inv.OX {pins:List (aaB × Obj)} {σ:St} {H:Hp} {s:aan} {p:aaB} {xs ys:List V} {its its':List aai} {n n':Nat} {f:Obj→Obj} (I:Inv X pins σ H s) (h:H p=some (.lst xs))
  (ho:s.heap.get? p=some { cls:=.type "list",data:=.seq its.toArray n }) (hf:f { cls:=.type "list",data:=.seq its.toArray n }={ cls:=.type "list",data:=.seq its'.toArray n' }) (r:Vals ys its') (hz:ys.length≤aaj) (t:Nat) :
  Inv X pins σ (upd H p (.lst ys)) { s with heap:=s.heap.update p f,toks:=t }:=by
 have e:(s.heap.update p f).get? p=some { cls:=.type "list",data:=.seq its'.toArray n' }:=by
  rw [Heap.get?_update_self f ho (by rw [hf] <;> rfl),hf]
 refine I.write (x:=p) (e:=p) (by rw [h];trivial) (.inl rfl) (fun b u hb q=>(adZ _ _ (ack hb)).trans q) ⟨_,e⟩ ?_
 exact⟨hz,its',n',r,e⟩
def RO:V→V→V→Hp→(Hp→Prop)→Prop:=fun o i v H Q=>∃p xs k j,o=.ref p∧i=.int k∧H p=some (.lst xs)∧IZ xs.length k=some j∧Q (upd H p (.lst (xs.set j v)))
theorem set_list:Ry X RO:=by
 intro pins s σ H o i v ov iv u Q I ro ri rv h
 obtain⟨p,xs,k,j,rfl,rfl,hp,hj,q⟩:=h
 cases ro
 obtain⟨t,rfl⟩:=ri
 obtain⟨its,n,r,ho,hz⟩:=I.lst hp
 obtain⟨h1,h2,h3,h4⟩:=FO hj
 have hl:=r.length
 have hn:=rM
 have I':Inv X pins σ (upd H p (.lst (xs.set j v))) { s with heap:=s.heap.update p (adI (·.setIfInBounds j u)) } :=
  I.OX hp ho (Ez its n j u) (r.set rv j) (by rw [ade];exact hz) s.toks
 by_cases h0:0≤k
 ·have hk:k.toNat=j:=by
   rw [seqIndex_of h0 h4] at h1
   exact aa7 h1
  exact PySem.W.ki_setAt ho h0 (by omega) (by rw [aaH,← hl];exact h4) (by rw [hk];exact⟨_,I',q⟩)
 ·have hk:(k+(its.toArray.size:Int)).toNat=j:=by
   rw [seqIndex_neg (by omega) h3] at h1
   rw [aaH,← hl]
   exact aa7 h1
  exact PySem.W.ki_setBack ho (by omega) (by rw [aaH,← hl];exact h3) (by omega) (by rw [hk];exact⟨_,I',q⟩)
theorem zS (lo hi:Option Int) (n:Nat):(sliceBounds lo hi none n).1=((HT.dQ n 0 lo:Nat):Int)∧(sliceBounds lo hi none n).2.1=((HT.dQ n n hi:Nat):Int)∧(sliceBounds lo hi none n).2.2=1:=by
 refine⟨?_,?_,rfl⟩
 ·cases lo with
  | none=>simp [sliceBounds,HT.dQ]
  | some i =>
   simp only [sliceBounds,HT.dQ,Option.getD_none,show(1:Int) > 0 by decide,if_true]
   by_cases h:i<0
   ·simp only [h,if_true] <;> omega
   ·simp only [h,if_false] <;> omega
 ·cases hi with
  | none=>simp [sliceBounds,HT.dQ]
  | some i =>
   simp only [sliceBounds,HT.dQ,Option.getD_none,show(1:Int) > 0 by decide,if_true]
   by_cases h:i<0
   ·simp only [h,if_true] <;> omega
   ·simp only [h,if_false] <;> omega
theorem xo (its:List aai) (lo hi:Option Int):slicePick its.toArray lo hi none=((its.drop (HT.dQ its.length 0 lo)).take (HT.dQ its.length its.length hi - HT.dQ its.length 0 lo)).toArray:=by
 obtain⟨h1,h2,h3⟩:=zS lo hi its.toArray.size
 unfold slicePick
 rw [h1,h2,h3]
 simp only [sliceRange_one,pick_run,aaH] <;> rfl
def Wh (K:aae):V→Option Int→Option Int→Hp→VK→Prop:=fun x lo hi H Q=>∃a xs,x=.ref a∧aL K H a xs∧∀p,H p=none→Q (.ref p) (upd H p (.lst (fQ xs lo hi)))
theorem fI:RM X (Wh X.K):=by
 intro pins s σ H x v vl vu lo hi sl Q I rx hs pl pu h
 obtain⟨a,xs,rfl,hx,q⟩:=h
 cases rx
 obtain⟨its,r,ht,hz⟩:=I.list hx
 have hlen:=r.length
 refine⟨"list",_,slot_list_getitem.lookup,ht.isList.typeIs,?_⟩
 refine wpAny_getItem_list_slice ht.isList hs pl pu .none (by simp) ?_ (by rw [aaH] <;> omega)
 rw [xo,← hlen]
 refine⟨.ref s.heap.objs.size,_,I.laid (t':=s.toks) (o:=.lst (fQ xs lo hi)) (fun b ob q=>aaE _ q) (aaz _) ?_,rfl,q _ (I.hok.fresh (aaz _))⟩
 exact⟨abj (sW xs lo hi) hz,_,0,(r.drop (HT.dQ xs.length 0 lo)).take (HT.dQ xs.length xs.length hi - HT.dQ xs.length 0 lo),abe _ rfl⟩
def i6:V→Bool
 | .cB=>true
 | .bl _=>true
 | .int _=>true
 | .str _=>true
 | _=>false
def Ip:V→V→Bool
 | .cB,.cB=>true
 | .bl a,.bl b=>a == b
 | .bl a,.int b=>(if a then 1 else 0) == b
 | .int a,.bl b=>a == (if b then 1 else 0)
 | .int a,.int b=>a == b
 | .str a,.str b=>a == b
 | _,_=>false
theorem OY {A:abi} {s:aan} {y x:V} {u v:aai} (ry:RelV y u) (rx:RelV x v) (fy:i6 y=true) (fx:i6 x=true):aeN A s u v (Ip y x):=by
 cases y with
 | cB =>
  cases ry
  cases x with
  | cB=>cases rx;exact aea _
  | bl b=>cases rx;exact aef b
  | int b=>obtain⟨t,rfl⟩:=rx;exact aer b t
  | str b=>obtain⟨t,rfl⟩:=rx;exact aes b t
  | _=>exact absurd (show false=true from fx) aaJ
 | bl a =>
  cases ry
  cases x with
  | cB=>cases rx;exact aeg a
  | bl b=>cases rx;exact aei a b
  | int b=>obtain⟨t,rfl⟩:=rx;exact aet a b t
  | str b=>obtain⟨t,rfl⟩:=rx;exact aeu a b t
  | _=>exact absurd (show false=true from fx) aaJ
 | int a =>
  obtain⟨t',rfl⟩:=ry
  cases x with
  | cB=>cases rx;exact aev a t'
  | bl b=>cases rx;exact aew a t' b
  | int b=>obtain⟨t,rfl⟩:=rx;exact aeD a t' b t
  | str b=>obtain⟨t,rfl⟩:=rx;exact adt a t' b t
  | _=>exact absurd (show false=true from fx) aaJ
 | str a =>
  obtain⟨t',rfl⟩:=ry
  cases x with
  | cB=>cases rx;exact aex a t'
  | bl b=>cases rx;exact aey a t' b
  | int b=>obtain⟨t,rfl⟩:=rx;exact adu a t' b t
  | str b=>obtain⟨t,rfl⟩:=rx;exact aeE a t' b t
  | _=>exact absurd (show false=true from fx) aaJ
 | _=>exact absurd (show false=true from fy) aaJ
def Ee (x:V) (u:aai):Bool:=match u with
 | .none=>Ip .cB x
 | .bool b=>Ip (.bl b) x
 | .int i _=>Ip (.int i) x
 | .str z _=>Ip (.str z) x
 | _=>false
theorem zT {x y:V} {u:aai} (r:RelV y u) (f:i6 y=true):Ee x u=Ip y x:=by
 cases y with
 | cB=>cases r;rfl
 | bl b=>cases r;rfl
 | int i=>obtain⟨t,rfl⟩:=r;rfl
 | str z=>obtain⟨t,rfl⟩:=r;rfl
 | _=>exact absurd (show false=true from f) aaJ
theorem pM {x:V}:∀{xs:List V} {us:List aai},Vals xs us→xs.all i6=true→us.any (Ee x)=xs.any fun y=>Ip y x
 | _,_,.nil,_=>rfl
 | y::xs,u::us,.cons r t,f=>by
  rw [abl,aaW] at f
  rw [abU,abU,zT r f.1,pM t f.2]
theorem i7 {A:abi} {s:aan} {x:V} {v:aai} (rx:RelV x v) (fx:i6 x=true):∀{xs:List V} {us:List aai},Vals xs us→xs.all i6=true→∀u∈us,aeN A s u v (Ee x u)
 | _,_,.nil,_=>fun u hu=>by cases hu
 | y::xs,u::us,.cons r t,f=>fun u' hu=>by
  rw [abl,aaW] at f
  rcases aaN.mp hu with rfl|hu
  ·rw [zT r f.1];exact OY r rx f.1 fx
  ·exact i7 rx fx t f.2 u' hu
def Ln (x:V) (xs:List V):Bool:=xs.any fun y=>Ip y x
def rIn (K:aae) (neg:Bool):R2:=fun x y H Q=>∃p xs,y=.ref p∧(aL K H p xs∨bT K H p xs)∧i6 x=true∧xs.all i6=true∧Q (.bl (if neg then !Ln x xs else Ln x xs)) H
theorem rO:rH X (compareOp .In) (rIn X.K false):=by
 intro pins s σ H x y v u Q I rx ry h
 obtain⟨p,xs,rfl,hq,fx,fs,q⟩:=h
 cases ry
 rcases hq with hq|hq
 ·obtain⟨its,r,pl,hz⟩:=I.list hq
  refine SeqAt.in_listAt (Ee x) pl.isList (fun w hw=>i7 rx fx r fs w (by simpa using hw)) ⟨.bl _,H,I,rfl,?_⟩
  rw [show its.toArray.any (Ee x)=its.any (Ee x) by simp,pM r fs]
  exact q
 ·obtain⟨its,r,pl,hz⟩:=I.tuple hq
  refine SeqAt.in_tupleAt (Ee x) pl (fun w hw=>i7 rx fx r fs w (by simpa using hw)) ⟨.bl _,H,I,rfl,?_⟩
  rw [show its.toArray.any (Ee x)=its.any (Ee x) by simp,pM r fs]
  exact q
theorem dB:rH X (compareOp .NotIn) (rIn X.K true):=by
 intro pins s σ H x y v u Q I rx ry h
 obtain⟨p,xs,rfl,hq,fx,fs,q⟩:=h
 cases ry
 rcases hq with hq|hq
 ·obtain⟨its,r,pl,hz⟩:=I.list hq
  refine SeqAt.notIn_listAt (Ee x) pl.isList (fun w hw=>i7 rx fx r fs w (by simpa using hw)) ⟨.bl _,H,I,rfl,?_⟩
  rw [show its.toArray.any (Ee x)=its.any (Ee x) by simp,pM r fs]
  exact q
 ·obtain⟨its,r,pl,hz⟩:=I.tuple hq
  refine SeqAt.notIn_tupleAt (Ee x) pl (fun w hw=>i7 rx fx r fs w (by simpa using hw)) ⟨.bl _,H,I,rfl,?_⟩
  rw [show its.toArray.any (Ee x)=its.any (Ee x) by simp,pM r fs]
  exact q
theorem aB:d8 X (.builtin "len") (fun xs H Q=>∃p ys,xs=[.ref p]∧(aL X.K H p ys∨bT X.K H p ys)∧Q (.int ys.length) H):=by
 intro pins s σ H xs us Q I r h
 obtain⟨p,ys,rfl,hq,q⟩:=h
 obtain⟨u,rfl,rx⟩:=vals1 r
 cases rx
 have hn:=rM
 rcases hq with hq|hq
 ·obtain⟨its,r',pl,hz⟩:=I.list hq
  have hlen:=r'.length
  exact Calls.call_len_list pl.isList (by simp only [aaH] <;> omega) ⟨.int ys.length,H,I.tok _,⟨s.toks+1,by rw [aaH,hlen]⟩,q⟩
 ·obtain⟨its,r',pl,hz⟩:=I.tuple hq
  have hlen:=r'.length
  exact len_tuple pl (by simp only [aaH] <;> omega) ⟨.int ys.length,H,I.tok _,⟨s.toks+1,by rw [aaH,hlen]⟩,q⟩
theorem eU:d8 X (.builtin "len") (fun xs H Q=>∃z,xs=[.str z]∧z.length≤aaj∧Q (.int z.length) H):=by
 intro pins s σ H xs us Q I r h
 obtain⟨z,rfl,hz,q⟩:=h
 obtain⟨u,rfl,t,rfl⟩:=vals1 r
 have hn:=rM
 exact len_str (by omega) ⟨.int z.length,H,I.tok _,⟨_,rfl⟩,q⟩
theorem pN:d8 X (.type "list") (fun xs H Q=>∃p ys,xs=[.ref p]∧(aL X.K H p ys∨bT X.K H p ys)∧∀l,H l=none→Q (.ref l) (upd H l (.lst ys))):=by
 intro pins s σ H xs us Q I r h
 obtain⟨p,ys,rfl,hq,q⟩:=h
 obtain⟨u,rfl,rx⟩:=vals1 r
 cases rx
 have fin:∀(its:List aai),Vals ys its→ys.length≤aaj→∀(h':Heap) (c':Nat),(∀b o',s.heap.get? b=some o'→h'.get? b=some o') →
   h'.get? s.heap.objs.size=some { cls:=.type "list",dict:=none,data:=.seq its.toArray c',slots:=#[] }→EP X pins σ Q (.ref s.heap.objs.size) { s with heap:=h' }:=fun its r' hz h' c' kp e =>
  ⟨.ref s.heap.objs.size,_,I.laid (t':=s.toks) kp (aaz _) (show dy X.prog X.w _ h' _ (.lst ys) from⟨hz,its,c',r',e⟩),rfl,q _ (I.hok.fresh (aaz _))⟩
 rcases hq with hq|hq
 ·obtain⟨its,r',pl,hz⟩:=I.list hq
  have hlen:=r'.length
  obtain⟨o,ho,hc,n,hd⟩:=pl.isList
  exact call_list_seq p (.inl rfl) ho hc hd (fun h' c' kp e=>fin its r' hz h' c' kp e) (by simp only [aaH] <;> omega)
 ·obtain⟨its,r',pl,hz⟩:=I.tuple hq
  have hlen:=r'.length
  obtain⟨o,ho,hc,n,hd⟩:=pl
  exact call_list_seq p (.inr rfl) ho hc hd (fun h' c' kp e=>fin its r' hz h' c' kp e) (by simp only [aaH] <;> omega)
theorem fJ:d8 X (.type "tuple") (fun xs H Q=>∃p ys,xs=[.ref p]∧((aL X.K H p ys∧∀l,H l=none→Q (.ref l) (upd H l (.tup ys)))∨(bT X.K H p ys∧Q (.ref p) H))):=by
 intro pins s σ H xs us Q I r h
 obtain⟨p,ys,rfl,h⟩:=h
 obtain⟨u,rfl,rx⟩:=vals1 r
 cases rx
 rcases h with⟨hq,q⟩|⟨hq,q⟩
 ·obtain⟨its,r',pl,hz⟩:=I.list hq
  have hlen:=r'.length
  refine call_tuple_list pl.isList (fun h' kp=>?_) (by simp only [aaH] <;> omega)
  have I1:Inv X pins σ H { s with heap:=h' }:=I.kept (t':=s.toks) kp
  have I2:Inv X pins σ (upd H h'.objs.size (.tup ys)) { s with heap:=h'.push { cls:=.type "tuple",data:=.seq its.toArray } } :=
   I1.laid (t':=s.toks) (fun b o e=>aaE _ e) (aaz _) (show dy X.prog X.w _ _ _ (.tup ys) from⟨hz,its,r',IsTup.new _ _⟩)
  exact⟨.ref h'.objs.size,_,I2,rfl,q _ (I1.hok.fresh (aaz _))⟩
 ·obtain⟨its,r',pl,hz⟩:=I.tuple hq
  exact call_tuple_same pl ⟨.ref p,H,I,rfl,q⟩
def Wi (K:aae) (T:String) (x:V) (H:Hp):Prop:=match x with
 | .str _=>T="str"
 | .int _=>T="int"
 | .ref p=>(T="list"∧∃xs,aL K H p xs)∨(T="tuple"∧∃o,K.lookup p=some o∧o.cls=.type "tuple"∧o.dict=none) ∨
   (T="dict"∧((∃kvs,H p=some (.dK kvs))∨∃kvs,H p=some (.dT kvs)))∨(T="set"∧∃S n,H p=some (.set S n))
 | _=>False
theorem I0 {pins:List (aaB × Obj)} {σ:St} {H:Hp} {s:aan} {T:String} {x:V} {v:aai} (I:Inv X pins σ H s) (r:RelV x v) (ty:Wi X.K T x H) :
  s.TypeIs v T∧∀a,v=.ref a→∃ob,s.heap.get? a=some ob∧ob.dict=none:=by
 cases x with
 | str z =>
  obtain⟨t,rfl⟩:=r
  cases (show T="str" from ty)
  exact⟨typeIs_str s z t,fun _ e=>nomatch e⟩
 | int i =>
  obtain⟨t,rfl⟩:=r
  cases (show T="int" from ty)
  exact⟨typeIs_int s i t,fun _ e=>nomatch e⟩
 | ref p =>
  cases r
  rcases ty with⟨rfl,xs,hq⟩|⟨rfl,o,hk,hc,hd⟩|⟨rfl,hk⟩|⟨rfl,S,n,hk⟩
  ·obtain⟨its,_,pl,_⟩:=I.list hq
   refine⟨pl.isList.typeIs,fun a e=>?_⟩
   cases e
   obtain⟨o,n,e,c,hd,_⟩:=pl
   exact⟨o,e,hd⟩
  ·refine⟨⟨o,I.zG p o hk,hc⟩,fun a e=>?_⟩
   cases e
   exact⟨o,I.zG _ o hk,hd⟩
  ·have z:∃o,s.heap.get? p=some o∧o.ExactDict:=by
    rcases hk with⟨kvs,hk⟩|⟨kvs,hk⟩
    ·obtain⟨_,_,_,_,o,_,_,e,ex,_⟩:=I.hok p _ hk
     exact⟨o,e,ex⟩
    ·obtain⟨_,_,_,_,o,_,_,e,ex,_⟩:=I.hok p _ hk
     exact⟨o,e,ex⟩
   obtain⟨o,e,ex⟩:=z
   refine⟨⟨o,e,ex.1⟩,fun a e2=>?_⟩
   cases e2
   exact⟨o,e,ex.2.1⟩
  ·obtain⟨o,_,_,_,e,ex,_⟩:=I.hok p _ hk
   refine⟨⟨o,e,ex.1⟩,fun a e2=>?_⟩
   cases e2
   exact⟨o,e,ex.2.1⟩
 | _=>exact abH ty
def Wj (K:aae) (T:String) (r:V→List V→Hp→VK→Prop) (to:TE):TE:=fun σ H Q=>to σ H fun x H1=>Wi K T x H1∧r x [] H1 Q
def UQ (K:aae) (T:String) (r:V→List V→Hp→VK→Prop) (to:TE) (t:TA):TE:=fun σ H Q=>to σ H fun x H1=>Wi K T x H1∧t σ H1 fun xs H2=>r x xs H2 Q
variable {o e:Expr} {es:List Expr} {to:TE} {t:TA} {name:Str} {apos cpos:Pos} {T id:String} {r:V→List V→Hp→VK→Prop}
theorem I8 (pa:PlainAttrs T) (slot:Slot T name id) (G0:typeOf (.builtin id)=pure (.type "method_descriptor")) (hm:NK X id r) (ho:PE X o to)
  (I9:attributeBase o name X.env (eval o X.env)=eval o X.env:=by rfl) (hline:(apos.endLine == cpos.line)=true:=by rfl):PE X (.Call (.Attribute o name apos) [] [] cpos) (Wj X.K T r to):=by
 intro pins s σ H Q I h
 refine wpAny_Call_method0_late I9 hline (thn (ho pins s σ H _ I h) fun v s1 ⟨x,H1,I1,r1,ty,q1⟩=>?_)
 obtain⟨h1,h2⟩:=I0 I1 r1 ty
 exact⟨T,id,pa,slot,G0,h1,h2,acV rfl (PySem.evalArgs_none (hm pins s1 σ H1 x [] v [] Q I1 r1 .nil q1))⟩
theorem bx (pa:PlainAttrs T) (slot:Slot T name id) (G0:typeOf (.builtin id)=pure (.type "method_descriptor")) (hm:NK X id r) (ho:PE X o to) (ha:PA X (e::es) t)
  (I9:attributeBase o name X.env (eval o X.env)=eval o X.env:=by rfl)
  (hfew:((backTo cpos (starEach (e::es) X.env)).all (fun x=>!x.1) && (backToKw cpos (keywordEach [] X.env)).all (fun x=>x.1.isSome)
   && decide ((e::es).length+([]:List Keyword).length+(if ([]:List Keyword).isEmpty then 0 else 1)<30))=true:=by rfl)
  (hline:(apos.endLine == cpos.line)=true:=by rfl) (hs:starEach (e::es) X.env=(false,eval e X.env)::starEach es X.env:=by rfl) (OZ:(backTo cpos (starEach es X.env)).any (·.1)=false:=by rfl) :
  PE X (.Call (.Attribute o name apos) (e::es) [] cpos) (UQ X.K T r to t):=by
 intro pins s σ H Q I h
 refine wpAny_Call_method_late I9 hfew hline rfl (thn (ho pins s σ H _ I h) fun v s1 ⟨x,H1,I1,r1,ty,q1⟩=>?_)
 obtain⟨h1,h2⟩:=I0 I1 r1 ty
 refine⟨T,id,pa,slot,G0,h1,h2,?_⟩
 have hA:=ha cpos pins s1 σ H1 _ I1 q1
 rw [hs] at hA ⊢
 refine acV (by show(false || (backTo cpos (starEach es X.env)).any (·.1))=false;rw [OZ] <;> rfl) (ac6 ?_)
 exact thn hA fun us s2 ⟨vs,H2,I2,r2,q2⟩=>hm pins s2 σ H2 x vs v us Q I2 r1 r2 q2
end
end L2
namespace L2
open PySem PySem.Spec PyProof.Rows
def MtM (X:Cx) (id:String) (r:V→List V→Hp→VK→Prop):Prop :=
 ∀(pins:List (aaB × Obj)) (s:aan) (σ:St) (H:Hp) (x:V) (xs:List V) (v:aai) (us:List aai) (Q:VK),Inv X pins σ H s→RelV x v→Vals xs us→r x xs H Q →
  aa8 (model X.prog X.w) X.A (call (.builtin id) (v::us)) (EP X pins σ Q) X.xe s
theorem Vals.one:∀{x:V} {us:List aai},Vals [x] us→∃u,us=[u]∧RelV x u
 | _,_,.cons r .nil=>⟨_,rfl,r⟩
section
variable {X:Cx} {pins:List (aaB × Obj)} {σ:St} {H:Hp} {s:aan} {l b:aaB} {xs ys zs:List V}
theorem Inv.O0 {its its':List aai} {n:Nat} {f:Array aai→Array aai} {t':Nat} (I:Inv X pins σ H s) (hH:H l=some (.lst xs))
  (e:s.heap.get? l=some { cls:=.type "list",data:=.seq its.toArray n }) (hf:f its.toArray=its'.toArray) (hv:Vals ys its') (hz:ys.length≤aaj) :
  Inv X pins σ (upd H l (.lst ys)) { s with heap:=s.heap.update l (adI f),toks:=t' }:=by
 have q:=PySem.IsL.update e f
 rw [hf] at q
 refine I.write (x:=l) (e:=l) (by rw [hH];exact trivial) (.inl rfl) (fun b' u hb hu=>(adZ s.heap (adI f) (ack hb)).trans hu) ⟨_,q⟩ ?_
 exact⟨hz,its',_,hv,q⟩
theorem Inv.Wk {its:List aai} {t':Nat} (I:Inv X pins σ H s) (hv:Vals ys its) (hz:ys.length≤aaj) :
  Inv X pins σ (upd H s.heap.objs.size (.lst ys)) { s with heap:=s.heap.push { cls:=.type "list",data:=.seq its.toArray },toks:=t' } :=
 I.laid (fun _ _ q=>aaE _ q) (aaz _) ⟨hz,its,0,hv,abe _ rfl⟩
theorem Inv.fresh (I:Inv X pins σ H s):H s.heap.objs.size=none:=I.hok.fresh (aaz _)
theorem Inv.G1 (I:Inv X pins σ H s) (hH:H l=some (.lst xs)):xs.length≤aaj∧∃(its:List aai) (n:Nat),Vals xs its∧xs.length=its.length∧s.heap.get? l=some { cls:=.type "list",data:=.seq its.toArray n }:=by
 obtain⟨z,its,n,r,e⟩:=I.hok l _ hH
 exact⟨z,its,n,r,r.length,e⟩
theorem Cm {n:Nat} (h:n≤aaj):abR n=false:=by
 unfold abR
 exact decide_eq_false (by omega)
end
section
variable {X:Cx}
def LU:V→List V→Hp→VK→Prop:=fun x vs H Q=>∃l xs y,x=.ref l∧vs=[y]∧H l=some (.lst xs)∧xs.length<aaj∧Q .cB (upd H l (.lst (xs++[y])))
theorem bg:MtM X "list.append" LU:=by
 intro pins s σ H x vs v us Q I rx rv h
 obtain⟨l,xs,y,rfl,rfl,hH,hz,q⟩:=h
 cases rx
 obtain⟨u,rfl,ru⟩:=rv.one
 obtain⟨z,its,n,r,hl,e⟩:=I.G1 hH
 refine call_meets aaI ⟨_,e,rfl⟩ F.entry_list_append (F.args_list_append_2 _ _) (PySem.list_append l its.toArray n u (by rw [aaH];omega)) ⟨e,?_⟩
 refine⟨.cB,_,I.O0 (its':=its++[u]) hH e (by simp) (r.append (.cons ru .nil)) ?_,rfl,q⟩
 rw [aag,abk]
 omega
def LV:V→List V→Hp→VK→Prop:=fun x vs H Q=>∃l b xs zs,x=.ref l∧vs=[.ref b]∧H l=some (.lst xs)∧H b=some (.lst zs)∧xs.length+zs.length≤aaj∧Q .cB (upd H l (.lst (xs++zs)))
theorem G2:MtM X "list.extend" LV:=by
 intro pins s σ H x vs v us Q I rx rv h
 obtain⟨l,b,xs,zs,rfl,rfl,hH,hB,hz,q⟩:=h
 cases rx
 obtain⟨u,rfl,ru⟩:=rv.one
 cases ru
 obtain⟨z,its,n,r,hl,e⟩:=I.G1 hH
 obtain⟨z2,dS,n2,r2,i8,e2⟩:=I.G1 hB
 have hsz:its.toArray.size+dS.toArray.size≤aaj:=by rw [aaH,aaH];omega
 have Ja:¬ (!its.toArray.isEmpty && abR (its.toArray.size+dS.toArray.size))=true:=by
  rw [Cm hsz,Bool.and_false]
  exact aaJ
 refine call_meets abW ⟨_,e,rfl⟩ ad0 (adP _ _)
  (AutoSeq1.list_extend_list_list_0 l its.toArray n b dS.toArray n2 Ja (by rw [aaH];omega) (by omega)) ⟨e,e2,?_⟩
 refine⟨.cB,_,I.O0 (its':=its++dS) hH e (by simp) (r.append r2) ?_,rfl,q⟩
 rw [aag]
 omega
def Wl:R2:=fun x y H Q=>∃l b xs zs,x=.ref l∧y=.ref b∧H l=some (.lst xs)∧H b=some (.lst zs)∧xs.length+zs.length≤aaj∧∀p,H p=none→Q (.ref p) (upd H p (.lst (xs++zs)))
theorem cF:rH X (binaryOp .Add) Wl:=by
 intro pins s σ H x y v u Q I rx ry h
 obtain⟨l,b,xs,zs,rfl,rfl,hH,hB,hz,q⟩:=h
 cases rx
 cases ry
 obtain⟨z,its,n,r,hl,e⟩:=I.G1 hH
 obtain⟨z2,dS,n2,r2,i8,e2⟩:=I.G1 hB
 refine PySem.P.add_list e e2 ?_ (by rw [aaH,aaH];omega)
 have ea:its.toArray++dS.toArray=(its++dS).toArray:=by simp
 rw [ea]
 exact⟨.ref _,_,I.Wk (t':=s.toks) (r.append r2) (by rw [aag];omega),rfl,q _ I.fresh⟩
end
section
variable {prog:aaS} {w:abg} {A:abi} {E:aai→aan→Prop} {s:aan}
end
section
variable {X:Cx}
end
end L2
namespace Att
open PySem PySem.W PySem.Calls PyProof.Rows
theorem ub {P:Params} {h:Heap}:∀(ns:List Int) (vs:List aai),WellAll P h vs (ns.map WData.int)→IntsAre vs ns:=by
 intro ns
 induction ns with
 | nil =>
  intro vs w
  rw [abJ] at w
  cases w
  exact .nil
 | cons n ns ih =>
  intro vs w
  rw [aa5] at w
  cases w with
  | cons a b =>
   cases a
   exact .cons _ _ (ih _ b)
theorem G3 {l:OpenLaw} {n:Nat} (hn:l.most=some n) {P:Params} {h:Heap} {args:List WData} {vals:List aai}
  (hpre:l.row.toRowW.claim.pre args=true) (hwl:WellAll P h vals args) :
  ∃a vs ns,vals=[abh a]∧args=[WData.list (ns.map WData.int)]∧h.get? a=some { cls:=.type "list",data:=.seq vs.toArray }∧IntsAre vs ns∧ns.length≤n:=by
 have hsh:WShape.hasAll [] args [.list .int]=true:=(pre_splitW hpre).1
 have hc:l.pre.holds [] { args:=args }=true:=(pre_splitW hpre).2
 obtain⟨d,r,rfl,h1,h2⟩:=hasAllW_cons hsh
 obtain rfl:=hasAllW_nil h2
 obtain⟨xs,rfl,h3⟩:=hasW_list h1
 obtain⟨ns,rfl⟩:=items_int h3
 have hlen:ns.length≤n:=by
  unfold OpenLaw.pre at hc
  have h4:(WTm.not (.lt (.lit (.int (n:Int))) (.len (.arg 0)))).holds [] { args:=[.list (ns.map .int)] }=true:=by
   have h4:=(holds_andW hc).1
   rw [hn] at h4
   exact h4
  have h5:=condW_of h4 (w_not (w_lt w_lit (w_len_list (w_arg rfl))))
  rw [Lm9] at h5
  refine Nat.le_of_not_lt fun q=>?_
  have q':(n:Int)<((ns.length:Nat):Int):=by omega
  first
   | (rw [decide_eq_true q'] at h5;exact absurd h5 (by decide))
   | (simp at h5;omega)
 cases hwl with
 | cons w1 w2 =>
  cases w2
  cases w1 with
  | list ho hall=>exact⟨_,_,ns,rfl,rfl,ho,ub ns _ hall,hlen⟩
theorem G4 (l:OpenLaw) (args:List WData):l.row.toRowW.claim.post args (.bool true) args=true :=
 postW_of (r:=l.row.toRowW) (X:=(true == true))
  (show WShape.has [] (.bool true) .bool=true by first|rfl|decide|simp [WShape.has,WShape.arms,WShape.armsAll])
  (show(WTm.eq .res (.lit (.bool true))).value [] { args:=args,res:=some (.bool true),after:=args }=some (.bool (true == true)) from w_eq_bool (w_res rfl) w_lit) rfl
theorem Cn {l:OpenLaw} {n:Nat} {q:aaS} {loose:List Str} {XP:(Str→Option aai)→Heap→Prop} {YP:abg→Heap→Prop} {d:DefRec}
  (hn:l.most=some n) (RP:d.params.defaults=[])
  (call:∀(w:abg) (s₀ s₁:aan) (mg mb:Str→Option aai) (fa:aaB) (o:Obj) (pm cd doc:aai) (a:aaB) (vs:List aai) (ns:List Int),
   Ground q loose [] XP w s₀ mg mb s₁.heap→YP w s₁.heap →
   s₁.heap.get? fa=some o→o.data=.func (docDef d.name d.params d.body d.scope pm cd doc)→s₁.heap.CodeRec cd d.name→mg d.name=some (.ref fa) →
   s₁.heap.get? a=some { cls:=.type "list",data:=.seq vs.toArray }→IntsAre vs ns→ns.length≤n→s₁.gens = #[] →
   codeAny (model l.prog w) callerA (.call (.ref fa) ⟨[.ref a],[]⟩) (fun r s'=>r=.ok (.ret (.bool true))∧OldK s₁.heap s'.heap∧s'.os=s₁.os∧AllBare s'.gens) s₁) :
  WalkO q loose XP YP l.row.toRowW d [] (fun f vs=>PySem.call f vs):=by
 intro w s₀ s₁ mg mb G Y fa o pm cd doc dV kV ho hd hcd hD hmg hg args vals as hpre hlay hrd hwl hlo
 obtain rfl:dV=.none:=Dflts.none hD RP
 obtain rfl:kV=.none:=Dflts.noKw hD
 obtain⟨a,vs,ns,rfl,rfl,O1,hints,hlen⟩:=G3 hn hpre hwl
 refine enter_call (codeAny_mono (call w s₀ s₁ mg mb fa o pm cd doc a vs ns G Y ho (fd_plain hd) hcd hmg O1 hints hlen hg) fun r s' hq=>?_)
 obtain⟨rfl,h2,h3,h4⟩:=hq
 exact⟨.inl ⟨.bool true,.bool true,[],rfl,fun _=>rfl,.bool true,G4 l _,fun _=>⟨List.Pairwise.nil,fun _ hm=>(nomatch hm)⟩⟩,h2,h3,h4⟩
section
variable {prog:aaS} {w:abg} {A:abi} {E:aai→aan→Prop} {s:aan} {K:Frag}
def ledger (h:Heap) (L d:aaB):List (aaB × Obj):=(abC h.objs.size).filterMap fun a=>if a=L∨a=d then none else (h.get? a).map fun o=>(a,o)
end
end Att
namespace L2
open PySem PySem.Spec PyProof.Rows
theorem yK:∀{vs:List aai} {ns:List Int},IntsAre vs ns→Vals (ns.map V.int) vs
 | _,_,.nil=>.nil
 | _,_,.cons n t h=>.cons ⟨t,rfl⟩ (yK h)
def O2 (H:Hp):Prop:=∀b,H b=none∨∃o xs,H b=some (.xf o (.lst xs))
theorem Jb {P:aaS} {w:abg} {K:aae} {mg mb:Str→Option aai} {CX:GX} {k:Nat} {fa a:aaB} {fd:aa9} {x:Str} {sp:Sp} {s₁:aan} {vs:List aai} {ns:List Int}
  (KX:K.In s₁.heap) (QM:s₁.heap.Ns aaU mg) (hb:s₁.heap.Ns builtinsNs mb) (hbb:∀x:Str,x≠"__name__"→mb x=bootBuiltins x) (Wm:s₁.heap.NoLimit) (hg:s₁.gens = #[])
  (ha:s₁.heap.get? a=some { cls:=.type "list",data:=.seq vs.toArray }) (hi:IntsAre vs ns) (hl:ns.length≤aaj) (hr:dR k callerA)
  (F:∀base:Heap,K.In base→base.Ns aaU mg→a4 P w K mg base CX k fa fd [x] sp) (RQ:∀(s:aan) (u:aai),BindsTo s fd ⟨[u],[]⟩ [(x,u)])
  (Lm:∀H:Hp,O2 H→aL K H a (ns.map V.int)→sp [.ref a] H (fun v _=>v=.bl true) fun _ _ _=>False)
  (Wn:∀H e s',CX [] H s₁ (fun _ _ _=>False) e s'→False) :
  codeAny (model P w) callerA (.call (.ref fa) ⟨[.ref a],[]⟩) (fun r s'=>r=.ok (.ret (.bool true))∧OldK s₁.heap s'.heap∧s'.os=s₁.os∧AllBare s'.gens) s₁:=by
 have rv:=yK hi
 have Wo:=hi.length
 have core:∀H:Hp,O2 H→aL K H a (ns.map V.int)→ly P w H s₁.heap→(∀b,H b≠none→b=a)→(H a≠none→K.lookup a=none) →
   codeAny (model P w) callerA (.call (.ref fa) ⟨[.ref a],[]⟩) (fun r s'=>r=.ok (.ret (.bool true))∧OldK s₁.heap s'.heap∧s'.os=s₁.os∧AllBare s'.gens) s₁:=by
  intro H hO hS hok hA hK
  have FP:∀{b:aaB} {o:Obj},s₁.heap.get? b=some o→H b=none→(zF s₁.heap H).get? b=some o:=fun e n=>Iz e n
  have RJ:∀{b:aaB} {o:Obj} {es:Array DictEntry} {ep:Nat},s₁.heap.get? b=some o→o.data=.dict es ep→H b=none:=fun {b o es ep} e d=>by
   cases q:H b with
   | none=>rfl
   | some u =>
    have e':b=a:=hA b (by rw [q];simp)
    subst e'
    rw [ha] at e;cases e
    have d':Data.seq vs.toArray _=Data.dict es ep:=d
    cases d'
  have UR:∀{b:aaB} {m:Str→Option aai},s₁.heap.Ns b m→(zF s₁.heap H).Ns b m:=fun {b m} ⟨o,es,ep,e,d,r⟩=>⟨o,es,ep,FP e (RJ e d),d,r⟩
  have hKb:K.In (zF s₁.heap H):=fun b o e=>FP (KX b o e) (by
   cases q:H b with
   | none=>rfl
   | some u =>
    have e':b=a:=hA b (by rw [q];simp)
    subst e'
    rw [hK (by rw [q];simp)] at e;cases e)
  have hM:Mod K mg (zF s₁.heap H):=⟨hKb,UR QM,⟨mb,UR hb,hbb⟩,let ⟨mc,h1,h2⟩:=Wm;⟨mc,UR h1,h2⟩⟩
  have e0:Et P w K mg (zF s₁.heap H) callerA [] s₁ H:=⟨rfl,hM,fun b o e=>LD e,Nat.le_of_eq (GK _ _),trivial,fun b hb=>absurd (show b∈([]:List aaB) from hb) (by simp),hok,.of_eq hg⟩
  refine codeAny_mono ((F _ hKb (UR QM)).run callerA [] s₁ H ⟨[.ref a],[]⟩ [.ref a] [.ref a] _ _ hr e0 (RQ s₁ (.ref a)) (.cons rfl .nil) (Lm H hO hS)) fun r s' h=>?_
  cases r with
  | error e=>exact(Wn H e s' h).elim
  | ok fl =>
   cases fl with
   | next=>exact abH h
   | brk=>exact abH h
   | cont=>exact abH h
   | ret u =>
    obtain⟨v,H',os,bare,un,Wq,r',q⟩:=h
    have q':v=.bl true:=q
    subst q'
    obtain rfl:u=adF true:=r'
    refine⟨rfl,OldK.of_keep fun b o e=>?_,os,bare⟩
    cases q:H b with
    | none=>exact un.keep b o e q (by intro z;exact absurd (show b∈([]:List aaB) from z) (by simp)) (by simp)
    | some u =>
     rcases hO b with z|⟨ob,xs,z⟩
     ·rw [q] at z;cases z
     ·have z2:=un.ju b ob _ z
      obtain⟨e1,_⟩:=hok b _ z
      obtain⟨e2,_⟩:=Wq b _ z2
      rw [e] at e1;cases e1
      exact e2
 cases hk:K.lookup a with
 | some o =>
  have e:=KX a o hk
  rw [ha] at e
  cases e
  refine core (fun _=>none) (fun _=>.inl rfl) (.inr ⟨_,vs.toArray,_,hk,rfl,rfl,rfl,by rw [aaH,Wo];exact hl,(by simp [V.pl]),(by simpa using rv)⟩) (fun b u z=>by have z':(none:Option HO)=some u:=z;cases z') (fun b z=>absurd rfl z) fun z=>absurd rfl z
 | none =>
  refine core (fun b=>if b=a then some (.xf { cls:=.type "list",data:=.seq vs.toArray } (.lst (ns.map V.int))) else none) (fun b=>?_) (.inl (.inr ⟨{ cls:=.type "list",data:=.seq vs.toArray },if_pos rfl⟩)) (fun b u z=>?_) (fun b z=>?_) fun _=>hk
  ·by_cases hb:b=a
   ·exact .inr ⟨_,_,if_pos hb⟩
   ·exact .inl (if_neg hb)
  ·by_cases hb:b=a
   ·have z':=(if_pos hb).symm.trans z
    cases z'
    subst hb
    exact⟨ha,by rw [Lm9];exact hl,vs,_,rv,ha⟩
   ·have z':=(if_neg hb).symm.trans z
    cases z'
  ·by_cases hb:b=a
   ·exact hb
   ·exact absurd (if_neg hb) z
end L2
namespace L2
open PySem PySem.Spec PyProof.Rows
abbrev KOf {K:aae} {h:Heap} (_:K.In h):aae:=K
theorem LW {l:aeb} {n k:Nat} {q:aaS} {loose:List Str} {XP:(Str→Option aai)→Heap→Prop} {YP:abg→Heap→Prop} {d:DefRec} {K:Params→aae} {CX:abg→GX} {sp:abg→Sp} {x:Str}
  (hn:l.most=some n) (GV:n≤aaj) (RP:d.params.defaults=[]) (hr:dR k callerA)
  (hY:∀(w:abg) (h:Heap),YP w h→(K w.params).In h)
  (F:∀(w:abg) (mg:Str→Option aai) (fa:aaB) (h:Heap),(K w.params).In h→h.Ns aaU mg→mg d.name=some (.ref fa) →
   ∃fd:aa9,(∀(s:aan) (u:aai),BindsTo s fd ⟨[u],[]⟩ [(x,u)]) ∧
    ∀base:Heap,(K w.params).In base→base.Ns aaU mg→a4 l.prog w (K w.params) mg base (CX w) k fa fd [x] (sp w))
  (Lm:∀(w:abg) (H:Hp) (a:aaB) (ns:List Int),ns.length≤n→O2 H→aL (K w.params) H a (ns.map V.int)→sp w [.ref a] H (fun v _=>v=.bl true) fun _ _ _=>False)
  (Wn:∀(w:abg) (H:Hp) (s:aan) (e:aai) (s':aan),CX w [] H s (fun _ _ _=>False) e s'→False) :
  PySem.W.WalkO q loose XP YP l.row.toRowW d [] (fun f vs=>PySem.call f vs):=by
 refine Att.Cn hn RP fun w s₀ s₁ mg mb fa o pm cd doc a vs ns G Y ho hd hcd hmg O1 hints hlen hg=>?_
 have KX:=hY w _ Y
 obtain⟨fd,hb,hF⟩:=F w mg fa _ KX G.T.g hmg
 exact Jb KX G.T.g G.T.b G.T.builtins G.T.nolimit hg O1 hints (abj hlen GV) hr hF hb (fun H hO hS=>Lm w H a ns hlen hO hS) fun H e s'=>Wn w H s₁ e s'
end L2
namespace L2
open PySem PySem.Spec PyProof.Rows
def inClass (s:Stmt) (j:Nat):Stmt:=match s with
 | .ClassDef _ _ _ body _ _ _ _ _ _ _=>body.getD j (.Pass ⟨0,0,0,0⟩)
 | _=>.Pass ⟨0,0,0,0⟩
def jz (s:Stmt):Arguments:=match s with
 | .FunctionDef _ a _ _ _ _ _ _ _ _=>a
 | _=>{ posonlyargs:=[],args:=[],vararg:=none,kwonlyargs:=[],kw_defaults:=[],kwarg:=none,defaults:=[] }
def gp (s:Stmt):List Stmt:=match s with
 | .FunctionDef _ _ b _ _ _ _ _ _ _=>b
 | _=>[]
def au (s:Stmt):Scope:=match s with
 | .FunctionDef _ _ _ _ _ _ sc _ _ _=>sc
 | _=>{ kind:=.function,names:=[],isGenerator:=false,isCoroutine:=false }
abbrev dJ:GX:=fun _ _ _ _ _ _=>False
abbrev E0:XK:=fun _ _ _=>False
theorem Co {X:Cx}:Passes dJ X E0:=fun _ _ _ _ _ _ _ h=>h.elim
structure dn (K:aae) (x qual:Str) (st:Stmt) (f:aaB) (fd:aa9):Prop where
 ex:∃(oc:aai) (od:Option aaB) (kV doc pm:aai) (an:Option aaB) (cJ ct:aai) (LM:Array (Option aai)),
  fd=aca x qual (jz st) (gp st) (au st) .none kV doc pm an cJ ct∧K.lookup f=some ⟨oc,od,.func fd,LM⟩∧adD K cJ qual=true
 kp:ab2 K (.ref f)=true
section
variable {P:aaS} {w:abg} {K:aae} {mg:Str→Option aai} {base:Heap}
theorem dn.ok {x qual:Str} {st:Stmt} {f:aaB} {fd:aa9} {N ps:List Str} {k:Nat} {sp:Sp} (F:dn K x qual st f fd) (S:aC N ps (au st)) (len:∀vs H Q E,sp vs H Q E→vs.length=ps.length)
  (Ck:∀(cJ:aai) (A:abi) (outer:List Env) (s:aan) (H:Hp) (vs:List V) (Q:VK) (E:XK),dR k (A.deeper (envOfC qual (au st) s.heap.objs.size f cJ))→sp vs H Q E →
   ∃t,Cf (Eu dJ P w K mg base N qual (au st) f cJ A outer s H E).UK (gp st) t∧t { nx:=fun _ H'=>Q .cB H',rt:=Q } (start N vs) H):a4 P w K mg base dJ (k+1) f fd ps sp:=by
 obtain⟨oc,od,kV,doc,pm,an,cJ,ct,LM,rfl,lk,hcd⟩:=F.ex
 refine NJ lk hcd S len fun A outer s H vs Q E hr Lm=>?_
 obtain⟨t,h,q⟩:=Ck cJ A outer s H vs Q E hr Lm
 exact⟨t,h.UK,q⟩
theorem dn.binds {x qual:Str} {st:Stmt} {f:aaB} {fd:aa9} {ps:List Str} (F:dn K x qual st f fd)
  (h:∀(kV doc pm:aai) (an:Option aaB) (cJ ct:aai) (us:List aai),us.length=ps.length→bindArgs (aca x qual (jz st) (gp st) (au st) .none kV doc pm an cJ ct) ⟨us,[]⟩=pure (ps.zip us)):Binds K fd ps []:=by
 obtain⟨oc,od,kV,doc,pm,an,cJ,ct,LM,rfl,lk,hcd⟩:=F.ex
 exact .all (h kV doc pm an cJ ct)
theorem EA {x qual:Str} {st:Stmt} {f:aaB} {oc:aai} {od an:Option aaB} {LM:Array (Option aai)} {kV doc pm cJ ct:aai} (l:K.lookup f=some ⟨oc,od,.func (aca x qual (jz st) (gp st) (au st) .none kV doc pm an cJ ct),LM⟩)
  (c:adD K cJ qual=true) (k:ab2 K (.ref f)=true):dn K x qual st f (aca x qual (jz st) (gp st) (au st) .none kV doc pm an cJ ct):=⟨⟨oc,od,kV,doc,pm,an,cJ,ct,LM,rfl,l,c⟩,k⟩
end
theorem FQ {A:abi} {k:Nat} (hr:dR k A):A.units+1<cLine:=Nat.lt_of_le_of_lt (Nat.add_le_add_left (by decide:1≤64) _) hr.units
section
variable {X:Cx}
theorem pv (i:Nat) {x:Str} {pos:Pos} (hN:X.N[i]?=some x:=by rfl) (hv:UG X.env.scope x:=by first|exact aaM rfl|exact ady (aaM rfl)|exact ady (ady rfl)) (hd:(x == ("__debug__":Str))=false:=by decide)
  (hcd:(x == ("__classdict__":Str))=false:=by decide):PE X (.Name x pos) (Rq i):=OD hN hv hd hcd
end
theorem bo {A B:Prop} (h:B):if false=true then A else B:=by
 rw [if_neg aaJ]
 exact h
theorem cL {A B:Prop} (h:A):if true=true then A else B:=by
 rw [if_pos rfl]
 exact h
theorem eV {c A B:Prop} [Decidable c] (h1:c→A) (h2:¬ c→B):if c then A else B:=by
 by_cases h:c
 ·rw [if_pos h]
  exact h1 h
 ·rw [if_neg h]
  exact h2 h
def ai (H H':Hp):Prop:=∀b o,H b=some o→H' b=some o
theorem ai.refl (H:Hp):ai H H:=fun _ _ h=>h
theorem ai.trans {H H1 H2:Hp} (a:ai H H1) (b:ai H1 H2):ai H H2:=fun c o h=>b c o (a c o h)
theorem ai.free {H H':Hp} (e:ai H H') {l:aaB} (h:H' l=aep):H l=aep:=by
 cases q:H l with
 | none=>rfl
 | some o =>
  rw [e l o q] at h
  cases h
theorem ai.seq {K:aae} {H H':Hp} {a:aaB} {xs:List V} (e:ai H H') (h:aL K H a xs):aL K H' a xs:=by
 rcases h with(h|⟨o,h⟩)|h
 ·exact .inl (.inl (e _ _ h))
 ·exact .inl (.inr ⟨o,e _ _ h⟩)
 ·exact .inr h
end L2
namespace L2
open PySem PySem.Spec PyProof.Rows
def cz (env:Env):List (Str × NameKind)→List (Str × aaB)→List (Str × aaB)
 | [],cs=>cs
 | (n,k)::r,cs=>if (k == abP)=true then cz env r ((n,(env.cells.lookup n).getD 0)::cs) else cz env r cs
theorem iA {env:Env}:∀(names:List (Str × NameKind)) (cs:List (Str × aaB)),(∀y∈names,y.2=.free→(env.cells.lookup y.1).isSome=true) →
  (forIn names cs (fun x (cs:List (Str × aaB))=>(match x with|(name,kind)=>if (kind == abP)=true then (do let a ← cellOf env name;pure (acp ((name,a)::cs))) else pure (acp cs):Sem (ForInStep (List (Str × aaB))))):Sem (List (Str × aaB)))=pure (cz env names cs)
 | [],cs,_=>rfl
 | (n,k)::r,cs,h=>by
  have hr:∀y∈r,y.2=.free→(env.cells.lookup y.1).isSome=true:=fun y hy=>h y (aam _ hy)
  rw [List.forIn_cons]
  by_cases hk:(k == abP)=true
  ·have e:k=.free:=by simpa using hk
   have hs:=h (n,k) aav e
   obtain⟨a,ha⟩:=abQ.mp hs
   simp only [hk,if_true,cz,cellOf,ha,adU,pure_bind]
   exact iA r _ hr
  ·simp only [hk,cz,pure_bind,acL,if_false]
   exact iA r _ hr
theorem EB {env:Env} {scope:Scope} (h:∀y∈scope.names,y.2=.free→(env.cells.lookup y.1).isSome=true):closureFor scope env=pure (cz env scope.names []):=by
 have e:=iA (env:=env) scope.names [] h
 unfold closureFor
 simp only [bind_pure_comp,map_pure] at e ⊢
 rw [← e]
 simp
theorem pO {env:Env}:∀{names:List (Str × NameKind)} {cs:List (Str × aaB)} {y:Str} {c:aaB},(∀z∈names,z.2=.free→(env.cells.lookup z.1).isSome=true)→(∀y c,cs.lookup y=some c→env.cells.lookup y=some c) →
  (cz env names cs).lookup y=some c→env.cells.lookup y=some c
 | [],_,_,_,_,hc,h=>hc _ _ h
 | (n,k)::r,cs,y,c,hn,hc,h=>by
  have hr:∀z∈r,z.2=.free→(env.cells.lookup z.1).isSome=true:=fun z hz=>hn z (aam _ hz)
  unfold cz at h
  by_cases hk:(k == abP)=true
  ·rw [if_pos hk] at h
   have e:k=.free:=by simpa using hk
   obtain⟨a,ha⟩:=abQ.mp (hn (n,k) aav e)
   refine pO hr (fun z d q=>?_) h
   rw [abF] at q
   cases hz:z == n with
   | true =>
    have ez:z=n:=by simpa using hz
    rw [hz] at q
    simp only [ha,adU] at q
    have ha':env.cells.lookup n=some a:=ha
    rw [ez,ha']
    exact q
   | false =>
    rw [hz] at q
    exact hc z d q
  ·rw [if_neg hk] at h
   exact pO hr hc h
theorem pP {env:Env}:∀{names:List (Str × NameKind)} {cs:List (Str × aaB)} {y:Str},((y,abP)∈names∨(cs.lookup y).isSome=true)→((cz env names cs).lookup y).isSome=true
 | [],_,_,h=>by
  rcases h with h|h
  ·cases h
  ·exact h
 | (n,k)::r,cs,y,h=>by
  unfold cz
  have key:∀a:aaB,(cs.lookup y).isSome=true→(acA y ((n,a)::cs)).isSome=true:=fun a q=>by
   rw [abF]
   cases y == n with
   | true=>rfl
   | false=>exact q
  by_cases hk:(k == abP)=true
  ·rw [if_pos hk]
   refine pP ?_
   rcases h with h|h
   ·rcases aaN.mp h with e|h
    ·cases e
     refine .inr ?_
     rw [abF]
     simp
    ·exact .inl h
   ·exact .inr (key _ h)
  ·rw [if_neg hk]
   refine pP ?_
   rcases h with h|h
   ·rcases aaN.mp h with e|h
    ·cases e
     exact absurd (by simp) hk
    ·exact .inl h
   ·exact .inr h
def jA (X:Cx) (scope:Scope) (cl:List (Str × aaB)) (N:List Str) (C:aaB) (s₀:aan) (H₀:Hp) (ex:List aaB):Cx where
 prog:=X.prog
 w:=X.w
 K:=X.K
 mg:=X.mg
 base:=X.base
 A:=X.A
 N:=N
 s₀:=s₀
 H₀:=H₀
 env:=compEnvC scope cl C X.env
 outer:=X.stack
 stack:=X.stack
 ex:=ex
 fn:=fun _=>false
 calm:=X.calm
 pn:=[]
 xe:=fun _ _=>False
def gh (X:Cx) (x:Str) (bu:List Nat):List Str:=x::bu.map fun i=>X.N.getD i (aaf "")
def cV (σ:St) (o:Option V) (bu:List Nat):St:=o::bu.map fun i=>(σ[i]?).join
def uX (outer scope:Scope) (x:Str) (N:List Str):Bool :=
 decide (scope.kind=.function) && scope.names.all (fun y=>decide (y.2≠.cell)) && scope.names.all (fun y=>decide (y.2=.local→scope.names.lookup y.1=some .local)) && decide (scope.names.lookup x=some .local) &&
  scope.names.all (fun y=>decide (y.2=.free→(outer.names.lookup y.1=some .cell∨outer.names.lookup y.1=some .free))) && N.tail.all (fun y=>decide (scope.names.lookup y=some .free)) && decide N.Nodup
structure Jc (outer scope:Scope) (x:Str) (N:List Str):Prop where
 kind:scope.kind=.function
 Jd:∀y∈scope.names,y.2≠.cell
 locs:∀y∈scope.names,y.2=.local→scope.names.lookup y.1=some .local
 tgt:scope.names.lookup x=some .local
 frees:∀y∈scope.names,y.2=.free→(outer.names.lookup y.1=some .cell∨outer.names.lookup y.1=some .free)
 bu:∀y∈N.tail,scope.names.lookup y=some .free
 nd:N.Nodup
theorem G5 {outer scope:Scope} {x:Str} {N:List Str} (h:uX outer scope x N=true):Jc outer scope x N:=by
 unfold uX at h
 simp only [aaW,aa4,decide_eq_true_eq] at h
 obtain⟨⟨⟨⟨⟨⟨h1,h2⟩,h3⟩,h4⟩,h5⟩,h6⟩,h7⟩:=h
 exact⟨h1,h2,h3,h4,h5,h6,h7⟩
theorem pQ {scope:Scope} {env:Env} {y:Str} {k':NameKind} (h:(relabel scope env).names.lookup y=some k'):∃k,scope.names.lookup y=some k∧(k'=k∨(k=.free∧k'=.cell)):=by
 have go:∀(names:List (Str × NameKind)),(names.map fun(n,k)=>if (k == abP && env.scope.kind == .function && env.kindOf n == some .cell) then (n,aeF) else (n,k)).lookup y=some k' →
   ∃k,names.lookup y=some k∧(k'=k∨(k=.free∧k'=.cell)):=by
  intro names
  induction names with
  | nil=>intro h;simp at h
  | cons a r ih =>
   obtain⟨n,k⟩:=a
   intro h
   rw [aa5] at h
   by_cases hc:(k == abP && env.scope.kind == .function && env.kindOf n == some .cell)=true
   ·simp only [hc,if_true,abF] at h
    rw [abF]
    cases hy:y == n with
    | true =>
     rw [hy] at h
     have hk:k=.free:=by
      simp only [aaW,beq_iff_eq] at hc
      exact hc.1.1
     exact⟨k,rfl,.inr ⟨hk,(aa7 h).symm⟩⟩
    | false =>
     rw [hy] at h
     exact ih h
   ·simp only [hc,acL,if_false,abF] at h
    rw [abF]
    cases hy:y == n with
    | true =>
     rw [hy] at h
     exact⟨k,rfl,.inl (aa7 h).symm⟩
    | false =>
     rw [hy] at h
     exact ih h
 exact go scope.names h
theorem zU {scope:Scope} {env:Env} {y:Str} (h:scope.names.lookup y=some .free):(relabel scope env).names.lookup y=some .cell∨(relabel scope env).names.lookup y=some .free:=by
 have go:∀(names:List (Str × NameKind)),names.lookup y=some .free→(names.map fun(n,k)=>if (k == abP && env.scope.kind == .function && env.kindOf n == some .cell) then (n,aeF) else (n,k)).lookup y=some .cell ∨
   (names.map fun(n,k)=>if (k == abP && env.scope.kind == .function && env.kindOf n == some .cell) then (n,aeF) else (n,k)).lookup y=some .free:=by
  intro names
  induction names with
  | nil=>intro h;simp at h
  | cons a r ih =>
   obtain⟨n,k⟩:=a
   intro h
   rw [aa5]
   rw [abF] at h
   by_cases hc:(k == abP && env.scope.kind == .function && env.kindOf n == some .cell)=true
   ·simp only [hc,if_true,abF]
    cases hy:y == n with
    | true=>exact .inl rfl
    | false =>
     rw [hy] at h
     exact ih h
   ·simp only [hc,acL,if_false,abF]
    cases hy:y == n with
    | true =>
     rw [hy] at h
     have h':k=.free:=aa7 h
     exact .inr (by rw [h'])
    | false =>
     rw [hy] at h
     exact ih h
 exact go scope.names h
def QN (X:Cx) (ifs:List Expr) (t:TT):Prop :=
 ∀(pins:List (aaB × Obj)) (s:aan) (σ:St) (H:Hp) (Q:Bool→Hp→Prop),Inv X pins σ H s→t σ H Q →
  aa8 (model X.prog X.w) X.A (forIn ifs true fun c r=>if r=true then do let ok ← isTrue c X.env (eval c X.env);pure (acp ok) else pure (acp r)) (TP X pins σ Q) X.xe s
def xq:TT:=fun _ H Q=>Q true H
theorem bE {X:Cx}:QN X [] xq:=fun _ _ _ H _ I h=>wpAny_tests_nil ⟨H,I,h⟩
theorem jB {X:Cx} {c:Expr} {t:TT} (h:PT X c t):QN X [c] t:=fun pins s σ H Q I hq=>wpAny_tests_one (h pins s σ H Q I hq)
theorem zV {prog:aaS} {w:abg} {A:abi} {R:Result→aan→Prop} {s:aan} {elt target iter:Expr} {ifs:List Expr} {scope:Scope} {pos:Pos} {it acc:aai} {env:Env} (I:Nat→aan→Prop)
  (turn:∀n s,I n s→aa8 (model prog w) A (pyNext it) (fun r s₁=>match r with
   | none=>R (.ok .next) s₁
   | some v=>aa8 (model prog w) A (letOwnedTupleGo target it v) (fun _ s₁'=>aa8 (model prog w) A (assign target env v) (fun _ s₂ =>
     aa8 (model prog w) A (forIn ifs true fun c r=>if r=true then do let ok ← isTrue c env (eval c env);pure (acp ok) else pure (acp r)) (fun ok s₃ =>
      if ok=true then aa8 (model prog w) A (eval elt env) (fun x s₄ =>
       aa8 (model prog w) A (call (.builtin "list.append") [acc,x]) (fun _ s₅=>∃m,m<n∧I m s₅) (fun _ _=>False) s₄) (fun _ _=>False) s₃
      else ∃m,m<n∧I m s₃) (fun _ _=>False) s₂) (fun _ _=>False) s₁') (fun _ _=>False) s₁) (fun _ _=>False) s)
  (n:Nat) (h:I n s):codeAny (model prog w) A (.compLoop (.ListComp elt [⟨target,iter,ifs,0⟩] scope pos) 0 it acc env) R s:=by
 refine codeAny_loop rfl I (fun n s hI=>?_) n h
 show aa8 _ A ((compTurn (.ListComp elt [⟨target,iter,ifs,0⟩] scope pos) 0 it acc env).onRaise (fun x=>do noteFrame x env;theTreesLotGoes x)) _ _ s
 refine wpAny_noted ?_
 rw [compTurn_list]
 refine aaw (wpAny_standAt (aaw (wpAny_mono (turn n s hI) (fun r s₁ h₁=>?_) fun _ _ h'=>h'.elim)))
 cases r with
 | none=>exact aaX h₁
 | some v =>
  refine aaw (wpAny_mono h₁ (fun _ s₁' h₁'=>?_) fun _ _ h'=>h'.elim)
  refine aaw (wpAny_mono h₁' (fun _ s₂ h₂=>aaw (wpAny_mono h₂ (fun ok s₃ h₃=>?_) fun _ _ h'=>h'.elim)) fun _ _ h'=>h'.elim)
  cases ok with
  | false=>exact aaX ⟨rfl,h₃⟩
  | true =>
   exact aaw (aaw (wpAny_mono h₃ (fun x s₄ h₄=>aaw (wpAny_mono h₄ (fun _ s₅ h₅=>aaX (aaX ⟨rfl,h₅⟩)) fun _ _ h'=>h'.elim)) fun _ _ h'=>h'.elim))
def lE (tt:TT) (te:TE) (bu:List Nat) (σ:St) (Q:VK) (J:It) (H1:Hp) (D:aaB):Prop :=
 ∃W:Nat→Nat→List V→Hp→Prop,(∃m,W 0 m [] (upd H1 D (.lst [])))∧∀i m ys H,W i m ys H →
  H D=some (.lst ys)∧ys.length<aaj ∧
  ((J.stop i H∧Q (.ref D) H)∨(J.go i H∧∃N:List V→Hp→Prop,(∀zs H',N zs H'→∃m',m'<m∧W (i+1) m' zs H')∧∀x H',J.OJ i H x H'→tt (cV σ (some x) bu) H' fun b H2 =>
   if b=true then te (cV σ (some x) bu) H2 fun y H3=>H3 D=some (.lst ys)∧N (ys++[y]) (upd H3 D (.lst (ys++[y])))
   else N ys H2))
def Je (wi:TI) (tt:TT) (te:TE) (bu:List Nat):TE:=fun σ H Q=>wi σ H fun J H1=>∀D,H1 D=none→lE tt te bu σ Q J H1 D
section
variable {X:Cx}
theorem EC {scope:Scope} {x:Str} {bu:List Nat} {pins:List (aaB × Obj)} {σ:St} {H:Hp} {s3:aan} {h1:Heap} {fp:List aaB} {m:Str→Option aai} {tk:Nat} (ok:Jc X.env.scope scope x (gh X x bu)) (I:Inv X pins σ H s3)
  (hf:∀b∈fp,xl X pins H b) (t9:∀b∈fp,b<s3.heap.objs.size) (hn:h1.Ns s3.heap.objs.size m) (keep:∀b o,s3.heap.get? b=some o→h1.get? b=some o) :
  Inv (jA X scope (cz X.env scope.names []) (gh X x bu) s3.heap.objs.size s3 H fp) [] (cV σ none bu) H { s3 with heap:=h1,toks:=tk }:=by
 have FT:∀z∈scope.names,z.2=.free→(X.env.cells.lookup z.1).isSome=true:=fun z hz FU=>by
  obtain⟨c,e⟩:=I.ok.has z.1 (by
   rcases ok.frees z hz FU with q|q
   ·exact .inl q
   ·exact .inr q)
  rw [e];rfl
 have sub:∀y c,(cz X.env scope.names []).lookup y=some c→X.env.cells.lookup y=some c:=fun y c h=>pO FT (fun _ _ q=>by simp at q) h
 have hC:H s3.heap.objs.size=none:=I.hok.fresh (aaz _)
 have GN:∀y c,X.env.cells.lookup y=some c→c<s3.heap.objs.size:=fun y c e=>by
  obtain⟨v,z⟩:=I.cell y c e
  exact z.lt
 refine⟨⟨I.ok.mod,?_,I.ok.glob,I.ok.blt,aaz _,fun y z c e1 e2=>I.ok.inj y z c (sub _ _ e1) (sub _ _ e2),fun y hy=>?_,fun y c GO _=>?_,I.ok.hd,I.ok.frames,.inl rfl,fun b hb=>⟨abd (t9 b hb),fun y c e=>(hf b hb).2.2.2.2.1 y c (sub _ _ e)⟩,
   I.bs,abj I.ok.Lj I.sz,fun b o e hb=>?_,fun b hb ED=>?_,I.stack,I.zI⟩,
  rfl,I.bare,Un.kept keep,⟨m,hn,fun i y v e1 e2 e3=>?_⟩,fun y c e=>?_,hC,fun y c e=>I.gG y c (sub _ _ e),fun p hp=>absurd (show p∈([]:List (aaB × Obj)) from hp) (by simp),I.hok.kept keep,by simp [jA,gh,cV]⟩
 ·show(relabel scope X.env).kind=.function
  exact ok.kind
 ·have hy':(relabel scope X.env).names.lookup y=some .cell∨(relabel scope X.env).names.lookup y=some .free:=hy
  have fr:scope.names.lookup y=some .free:=by
   rcases hy' with q|q
   ·obtain⟨k,e,z⟩:=pQ q
    rcases z with z|⟨z,_⟩
    ·exact absurd z.symm (ok.Jd _ (abw e))
    ·rw [e,z]
   ·obtain⟨k,e,z⟩:=pQ q
    rcases z with z|⟨_,z⟩
    ·rw [e,z]
    ·cases z
  exact abQ.mp (pP (.inl (abw fr)))
 ·exact absurd (show(fun _=>false) y=true from GO) (by simp)
 ·rcases(hf b hb).2.2.2.1 with z|z
  ·exact I.ok.GL b o e z
  ·exact absurd (aaY (aaV e) (abj I.ok.Lj z)) (acd _)
 ·rcases aaN.mp (I.zH b ED) with z|z
  ·exact(hf b hb).2.1 z
  ·exact(hf b hb).2.2.1 z
 ·have e1':(gh X x bu)[i]?=some y:=e1
  cases i with
  | zero=>simp [cV] at e2
  | succ i =>
   simp only [gh,adQ,aa6] at e1'
   simp only [cV,adQ,aa6] at e2
   cases hj:bu[i]? with
   | none=>rw [hj] at e2;cases e2
   | some j =>
    rw [hj] at e1' e2
    simp only [Option.map_some,Option.some.injEq] at e1' e2
    cases hσ:σ[j]? with
    | none=>rw [hσ] at e2;cases e2
    | some o =>
     rw [hσ] at e2
     have e2':o=some v:=e2
     subst e2'
     have RR:j<X.N.length:=by rw [← I.len];exact(aau.mp hσ).1
     have eN:X.N[j]?=some y:=by
      rw [Ge9 RR]
      rw [Gd9,Ge9 RR] at e1'
      exact congrArg some e1'
     have hy:scope.names.lookup y=some .free:=ok.bu y (by
      show y∈bu.map fun i=>X.N.getD i (aaf "")
      exact aay.mpr ⟨j,abB hj,e1'⟩)
     have hk:=ok.frees (y,.free) (abw hy) rfl
     obtain⟨m',_,hl⟩:=I.loc
     obtain⟨u,r,q⟩:=hl j y v eN hσ (.inr hk)
     refine⟨u,r,.inr ⟨zU hy,?_⟩⟩
     rcases q with⟨k,_⟩|⟨_,c,e,z⟩
     ·have k':X.env.scope.names.lookup y=some .local:=k
      rw [k'] at hk
      rcases hk with hk|hk <;> cases hk
     ·obtain⟨c',e'⟩:=abQ.mp (pP (env:=X.env) (cs:=[]) (.inl (abw hy)))
      have ec:=sub _ _ e'
      rw [e] at ec
      cases ec
      obtain⟨o,ho,hd⟩:=z
      exact⟨c,e',o,keep c o ho,hd⟩
 ·obtain⟨v,o,ho,hd⟩:=I.cell y c (sub _ _ e)
  exact⟨v,o,keep c o ho,hd⟩
theorem yL {x:Str} {px pos p:Pos} {iter elt:Expr} {ifs:List Expr} {scope:Scope} {wi:TI} {tt:TT} {te:TE} {bu:List Nat} {use:Option (aai→Sem Unit)} {QQ:aai→aan→Prop}
  (hc:X.calm=true) (ho:uX X.env.scope scope x (gh X x bu)=true) (hi:PI X (.Name x px) iter wi)
  (ht:∀cl C s₀ H₀ ex,QN (jA X scope cl (gh X x bu) C s₀ H₀ ex) ifs tt) (he:∀cl C s₀ H₀ ex,PE (jA X scope cl (gh X x bu) C s₀ H₀ ex) elt te)
  (hs:∀x,foldedSetIterable iter X.env x=pure x) {pins:List (aaB × Obj)} {s:aan} {σ:St} {H:Hp} {Q:VK} (I:Inv X pins σ H s) (h:Je wi tt te bu σ H Q)
  (fin:∀(D C:aaB) (H':Hp) (s':aan) (m:Str→Option aai),Inv X pins σ H' s'→Q (.ref D) H'→s'.heap.Ns C m→xl X pins H' C→compPost (model X.prog X.w) X.A X.xe use QQ (.ref D) C (.ok .next) s') :
  aa8 (model X.prog X.w) X.A (comprehension (.ListComp elt [⟨.Name x px,iter,ifs,0⟩] scope pos) scope X.env p (newList []) false (eval iter X.env) use) QQ X.xe s:=by
 have ok:=G5 ho
 have FT:∀z∈scope.names,z.2=.free→(X.env.cells.lookup z.1).isSome=true:=fun z hz FU=>by
  obtain⟨c,e⟩:=I.ok.has z.1 (by
   rcases ok.frees z hz FU with q|q
   ·exact .inl q
   ·exact .inr q)
  rw [e];rfl
 refine wpAny_comprehension_free (cl:=cz X.env scope.names []) (use:=use) rfl hs (EB FT) ok.kind ok.locs (thn (hi pins s σ H _ I h) fun v s1 h1=>thn h1 fun V3 s2 h2=>?_)
 obtain⟨it,fp,tn,J,H2,e,I2,T,UM,f2,rd⟩:=h2
 subst e
 refine wpAny_newObj_type (wpAny_newFunctionEnv ok.Jd (by intro y hy;simp at hy) (fun h₁ O3 O4=>?_) ok.kind)
 dsimp only at O3 O4 ⊢
 have xr:H2 s2.heap.objs.size=none:=I2.hok.fresh (aaz _)
 obtain⟨W,⟨m0,w0⟩,turn⟩:=rd s2.heap.objs.size xr
 have RT:∀b∈fp,b<s2.heap.objs.size:=fun b hb=>by
  obtain⟨o,e,_⟩:=T.obj 0 _ UM b hb
  exact aaV e
 have hsz:(s2.heap.push { cls:=.type "list",dict:=none,data:=.seq ([]:List aai).toArray }).objs.size=s2.heap.objs.size+1:=aem ..
 have I3:Inv X pins σ (upd H2 s2.heap.objs.size (.lst [])) { s2 with heap:=s2.heap.push { cls:=.type "list",dict:=none,data:=.seq ([]:List aai).toArray } } :=
  I2.laid (t':=s2.toks) (fun b u e=>aaE _ e) (aaz _) ⟨by simp,[],0,.nil,abe _ rfl⟩
 have OK:tn 0 (s2.heap.push { cls:=.type "list",dict:=none,data:=.seq ([]:List aai).toArray }):=T.keep _ _ _ UM fun b _ o e=>aaE _ e
 generalize hH3:s2.heap.push { cls:=.type "list",dict:=none,data:=.seq ([]:List aai).toArray }=h3 at O3 O4 hsz I3 OK ⊢
 generalize hHH:upd H2 s2.heap.objs.size (.lst [])=H3 at I3 w0
 have RU:∀b∈fp,b<h3.objs.size:=fun b hb=>by rw [hsz];exact Nat.lt_succ_of_lt (RT b hb)
 have f3:∀b∈fp,xl X pins H3 b:=fun b hb=>⟨by rw [← hHH,aH (abd (RT b hb))];exact(f2 b hb).1,(f2 b hb).2⟩
 have keep:∀b o,h3.get? b=some o→h₁.get? b=some o:=fun b o e=>O4.extBut b o (abd (aaV e)) (aaE _ e)
 have I4:=EC (s3:={ s2 with heap:=h3 }) (tk:=s2.toks+([]:List (Str × aai)).length) ok I3 f3 RU O3 keep
 have st4:tn 0 h₁:=T.keep _ _ _ OK fun b _ o e=>keep b o e
 generalize EE:jA X scope (cz X.env scope.names []) (gh X x bu) ({ s2 with heap:=h3 }:aan).heap.objs.size { s2 with heap:=h3 } H3 fp=X' at I4
 have eA:X'.A=X.A:=by rw [← EE] <;> rfl
 have eP:X'.prog=X.prog:=by rw [← EE] <;> rfl
 have ew:X'.w=X.w:=by rw [← EE] <;> rfl
 have eK:X'.K=X.K:=by rw [← EE] <;> rfl
 have ee:X'.env=compEnvC scope (cz X.env scope.names []) h3.objs.size X.env:=by rw [← EE] <;> rfl
 have ex:X'.xe=fun _ _=>False:=by rw [← EE] <;> rfl
 have eN:X'.N=gh X x bu:=by rw [← EE] <;> rfl
 have ec:X'.calm=true:=by rw [← EE];exact hc
 have efs:X'.fs=g9 X.stack:=by rw [← EE] <;> rfl
 have hT':QN X' ifs tt:=by rw [← EE];exact ht _ _ _ _ _
 have hE':PE X' elt te:=by rw [← EE];exact he _ _ _ _ _
 have leave:∀{σ':St} {H':Hp} {s':aan},Inv X' [] σ' H' s'→Q (.ref s2.heap.objs.size) H'→compPost (model X.prog X.w) X.A X.xe use QQ (.ref s2.heap.objs.size) h3.objs.size (.ok .next) s':=fun {σ' H' s'} J q=>by
  have un:Un (g9 X.stack) fp H3 H' h3 s'.heap:=by have z:=J.base;rw [← EE] at z;exact z
  have LO:s'.os=s2.os:=by have z:=J.os;rw [← EE] at z;exact z
  have hk:ly X.prog X.w H' s'.heap:=by have z:=J.hok;rw [eP,ew] at z;exact z
  have Jx:=I3.Rp (s':=s') (ch:=fp) LO un hk J.bare fun b hb=>⟨(f3 b hb).2.2.2.1,(f3 b hb).2.1,(f3 b hb).2.2.2.2.1,(f3 b hb).2.2.2.2.2⟩
  obtain⟨m,hn,_⟩:=J.loc
  have hn':s'.heap.Ns h3.objs.size m:=by rw [ee] at hn;exact hn
  have FU:H' h3.objs.size=none:=by have z:=J.free;rw [ee] at z;exact z
  exact fin _ _ H' s' m Jx q hn' (I3.II (aaz _) FU)
 have Em:∀{H':Hp},(∀b∈fp,H' b=none)→∀b∈fp,xl X' [] H' b:=fun {H'} hn b hb=>by
  refine⟨hn b hb,?_,?_,.inl ?_,fun y c e=>?_,fun p hp=>?_⟩
  ·rw [ee];exact abd (RU b hb)
  ·rw [efs]
   intro z
   rcases aaN.mp (I3.zH b z) with z|z
   ·exact(f3 b hb).2.1 z
   ·exact(f3 b hb).2.2.1 z
  ·rw [← EE];exact hb
  ·have e':(cz X.env scope.names []).lookup y=some c:=by rw [ee] at e;exact e
   exact(f3 b hb).2.2.2.2.1 y c (pO FT (fun _ _ q=>by simp at q) e')
  ·rw [← EE] at hp
   exact absurd (show p∈([]:List (aaB × Obj)) from hp) (by simp)
 have loop:∀s₃:aan,s₃={ s2 with heap:=h₁,toks:=s2.toks+([]:List (Str × aai)).length } →
   codeAny (model X.prog X.w) X.A (.compLoop (.ListComp elt [⟨.Name x px,iter,ifs,0⟩] scope pos) 0 (.ref it) (.ref s2.heap.objs.size) (compEnvC scope (cz X.env scope.names []) h3.objs.size X.env))
    (compPost (model X.prog X.w) X.A X.xe use QQ (.ref s2.heap.objs.size) h3.objs.size) s₃:=by
  rintro s₃ rfl
  refine zV (fun n s'=>∃i o H' ys,Inv X' [] (cV σ o bu) H' s'∧tn i s'.heap∧(∀b∈fp,H' b=none)∧W i n ys H') ?_ m0 ⟨0,none,H3,[],I4,st4,fun b hb=>(f3 b hb).1,w0⟩
  rintro n s' ⟨i,o,H',ys,J,Fy,fr',w'⟩
  obtain⟨hDl,hlen,alt⟩:=turn i n ys H' w'
  rcases alt with⟨stop,q⟩|⟨go,N,hN,step⟩
  ·have z:=T.done X' eP ew eK ec i [] s' _ H' (fun _ _=>False) J (Em fr') Fy stop
   rw [eA] at z
   refine thn z fun r s4 ⟨hr,J4⟩=>?_
   subst hr
   exact leave J4 q
  ·have z:=T.item X' eP ew eK ec i [] s' _ H' (fun _ _=>False) J (Em fr') Fy go
   rw [eA] at z
   refine thn z fun r s4 ⟨u,hr,h4⟩=>?_
   subst hr
   refine thn h4 fun _ s5 ⟨xv,H5,J5,r5,y5,OL,V6⟩=>?_
   have J5':=J5.pinned (Em V6) (T.obj _ _ OL)
   have lx:(relabel scope X.env).names.lookup x=some .local:=lookup_relabel_local ok.tgt
   have hg:PG X' (.Name x px) (yE 0):=bw (by rw [eN];exact ok.nd) (by rw [eN] <;> rfl) (by rw [ee];exact .inl lx) (by rw [ee];exact .inr lx)
   have zg:=hg _ s5 _ H5 xv u (fun σ6 H6=>σ6=cV σ (some xv) bu∧H6=H5) J5' r5 ⟨rfl,rfl⟩
   rw [eP,ew,eA,ee,ex] at zg
   refine thn zg fun _ s6 ⟨σ6,H6,J6,q6⟩=>?_
   obtain⟨e6,e6'⟩:=q6
   subst e6 e6'
   have zt:=hT' _ s6 _ _ _ J6 (step xv _ y5)
   rw [eP,ew,eA,ee,ex] at zt
   refine thn zt fun b s7 ⟨H7,J7,q7⟩=>?_
   have again:∀{H8:Hp} {s8:aan} {QO:List V},Inv X' ([]++uU fp s5.heap) (cV σ (some xv) bu) H8 s8→N QO H8→∃m,m<n∧∃i o H' ys,Inv X' [] (cV σ o bu) H' s8∧tn i s8.heap∧(∀b∈fp,H' b=none)∧W i m ys H':=fun {H8 s8 QO} J8 n8=>by
    obtain⟨m',hm,w8⟩:=hN QO H8 n8
    refine⟨m',hm,i+1,some xv,H8,QO,J8.pI,T.keep _ _ _ OL fun b hb o e=>(J8.pin (b,o) (aah _ (aah _ (jw hb e)))).1,fun b hb=>?_,w8⟩
    obtain⟨o,e,d⟩:=T.obj _ _ OL b hb
    exact(J8.pin (b,o) (aah _ (aah _ (jw hb e)))).2.1
   cases b with
   | false=>exact again J7 q7
   | true =>
    have ze:=hE' _ s7 _ H7 _ J7 q7
    rw [eP,ew,eA,ee,ex] at ze
    refine thn ze fun yv s8 ⟨y,H8,J8,r8,hD8,q8⟩=>?_
    have za:=bg (X:=X') _ s8 _ H8 (.ref s2.heap.objs.size) [y] (.ref s2.heap.objs.size) [yv] (fun _ H9=>H9=upd H8 s2.heap.objs.size (.lst (ys++[y]))) J8 rfl (.cons r8 .nil) ⟨_,ys,y,rfl,rfl,hD8,hlen,rfl⟩
    rw [eP,ew,eA,ex] at za
    refine thn za fun _ s9 ⟨_,H9,J9,_,q9⟩=>?_
    subst q9
    exact again J9 q8
 exact codeAny_compStart_list (loop _ rfl) (T.self _ 0 _ _ _ st4 (loop _ rfl))
theorem bG {x:Str} {px pos:Pos} {iter elt:Expr} {ifs:List Expr} {scope:Scope} {wi:TI} {tt:TT} {te:TE} (bu:List Nat)
  (hc:X.calm=true) (ho:uX X.env.scope scope x (gh X x bu)=true) (hi:PI X (.Name x px) iter wi)
  (ht:∀cl C s₀ H₀ ex,QN (jA X scope cl (gh X x bu) C s₀ H₀ ex) ifs tt) (he:∀cl C s₀ H₀ ex,PE (jA X scope cl (gh X x bu) C s₀ H₀ ex) elt te)
  (hs:∀x,foldedSetIterable iter X.env x=pure x:=by intro _;rfl):PE X (.ListComp elt [⟨.Name x px,iter,ifs,0⟩] scope pos) (Je wi tt te bu):=by
 intro pins s σ H Q I h
 rw [eval_ListComp]
 refine yL (use:=none) hc ho hi ht he hs I h fun D C H' s' m J q hn hf=>?_
 exact⟨m,hn,fun h' sb=>⟨.ref D,H',J.turned (t':=s'.toks) (fun b o hb e=>(sb.2 b hb).trans e) hf.1 hf.2.1 hf.2.2.2.1 hf.2.2.2.2.1 hf.2.2.2.2.2,rfl,q⟩⟩
theorem ie {i:Nat} {x y:Str} {px py pos RV:Pos} {iter elt:Expr} {ifs:List Expr} {scope:Scope} {wi:TI} {tt:TT} {te:TE} (bu:List Nat)
  (hN:X.N.Nodup) (hiy:X.N[i]?=some y) (hy:Loc X.env.scope y)
  (hc:X.calm=true) (ho:uX X.env.scope scope x (gh X x bu)=true) (hi:PI X (.Name x px) iter wi)
  (ht:∀cl C s₀ H₀ ex,QN (jA X scope cl (gh X x bu) C s₀ H₀ ex) ifs tt) (he:∀cl C s₀ H₀ ex,PE (jA X scope cl (gh X x bu) C s₀ H₀ ex) elt te)
  (hsw:swapsWith (.ListComp elt [⟨.Name x px,iter,ifs,0⟩] scope pos) (some (.Name y py)) RV.line X.env=pure true:=by rfl)
  (hs:∀x,foldedSetIterable iter X.env x=pure x:=by intro _;rfl) (hf:X.fn y=true∨X.env.scope.names.lookup y=some .local:=by first|exact .inl rfl|exact .inr rfl|assumption) :
  PS X (.Assign [.Name y py] (.ListComp elt [⟨.Name x px,iter,ifs,0⟩] scope pos) RV) (OH (Je wi tt te bu) (yE i)):=by
 intro pins s σ H D I h
 rw [exec_Assign_Name_used _ _ _ _ hsw]
 refine aaw (wpAny_standAt (aaw ?_))
 show aa8 _ X.A (do let _ ← comprehension (.ListComp elt [⟨.Name x px,iter,ifs,0⟩] scope pos) scope X.env _ (newList []) false (eval iter X.env) (some (assign (.Name y py) X.env))) _ _ s
 refine aaw (wpAny_mono (yL (QQ:=fun _ s'=>SP X pins D .next s') (use:=some (assign (.Name y py) X.env)) hc ho hi ht he hs I h fun D' C H' s' m J q hn hf'=>?_) (fun _ s' hq=>aaX (aaX hq)) fun _ _ e=>e)
 refine wpAny_assign_Name (yC (v:=.ref D') J hN hiy hy rfl (fun s2 I2 US=>?_) hf)
 obtain⟨a,sb,ha⟩:=US
 have hne:C≠a:=by
  rcases ha with rfl|e
  ·exact hf'.2.1
  ·exact fun z=>hf'.2.2.2.2.1 y a e z.symm
 exact⟨m,hn.sameBut sb hne,fun h'' sb2=>⟨_,H',I2.turned (t':=s2.toks) (fun b o hb e=>(sb2.2 b hb).trans e) hf'.1 hf'.2.1 hf'.2.2.2.1 hf'.2.2.2.2.1 hf'.2.2.2.2.2,q⟩⟩
end
section
variable {tt:TT} {te:TE} {bu:List Nat} {σ:St} {H1:Hp} {Q:VK}
theorem uC {J:It} {D:aaB} (n:Nat) (hn:n<aaj) (at_:Nat→V) (Pv:Nat→List V→Hp→Prop) (h0:Pv 0 [] (upd H1 D (.lst [])))
  (zQ:∀ys H,Pv n ys H→J.stop n H) (hgo:∀i ys H,Pv i ys H→i<n→J.go i H) (hy:∀i ys H x H',Pv i ys H→i<n→J.OJ i H x H'→H'=H∧x=at_ i)
  (hD:∀i ys H,Pv i ys H→H D=some (.lst ys)∧ys.length≤i)
  (hs:∀i ys H,i<n→Pv i ys H→tt (cV σ (some (at_ i)) bu) H fun b H2 =>
   if b=true then te (cV σ (some (at_ i)) bu) H2 fun y H3=>H3 D=some (.lst ys)∧Pv (i+1) (ys++[y]) (upd H3 D (.lst (ys++[y])))
   else Pv (i+1) ys H2)
  (hd:∀ys H,Pv n ys H→Q (.ref D) H):lE tt te bu σ Q J H1 D:=by
 refine⟨fun i m ys H=>m=n - i∧i≤n∧Pv i ys H,⟨n,by simp,abt _,h0⟩,?_⟩
 rintro i m ys H ⟨rfl,hi,p⟩
 obtain⟨xg,hl⟩:=hD i ys H p
 refine⟨xg,by omega,?_⟩
 by_cases t9:i<n
 ·refine .inr ⟨hgo i ys H p t9,Pv (i+1),fun zs H' q=>⟨n - (i+1),by omega,rfl,t9,q⟩,fun x H' y=>?_⟩
  obtain⟨e,e'⟩:=hy i ys H x H' p t9 y
  subst e e'
  exact hs i ys _ t9 p
 ·have e:i=n:=by omega
  subst e
  exact .inl ⟨zQ ys H p,hd ys H p⟩
theorem dU {lo:Int} {n:Nat} {D:aaB} (hn:n<aaj) (Pv:Nat→List V→Hp→Prop) (h0:Pv 0 [] (upd H1 D (.lst [])))
  (hD:∀i ys H,Pv i ys H→H D=some (.lst ys)∧ys.length≤i)
  (hs:∀i ys H,i<n→Pv i ys H→tt (cV σ (some (.int (lo+i))) bu) H fun b H2 =>
   if b=true then te (cV σ (some (.int (lo+i))) bu) H2 fun y H3=>H3 D=some (.lst ys)∧Pv (i+1) (ys++[y]) (upd H3 D (.lst (ys++[y])))
   else Pv (i+1) ys H2)
  (hd:∀ys H,Pv n ys H→Q (.ref D) H):lE tt te bu σ Q (NC lo n) H1 D :=
 uC (J:=NC lo n) (Q:=Q) (D:=D) (H1:=H1) n hn (fun i=>.int (lo+i)) Pv h0 (fun _ _ _=>aaz _) (fun _ _ _ _ h=>h) (fun _ _ _ _ _ _ _ y=>y) hD hs hd
theorem i9 {K:aae} {a:aaB} {xs:List V} {D:aaB} (hn:xs.length<aaj) (Pv:Nat→List V→Hp→Prop) (h0:Pv 0 [] (upd H1 D (.lst [])))
  (hl:∀i ys H,Pv i ys H→aL K H a xs) (hD:∀i ys H,Pv i ys H→H D=some (.lst ys)∧ys.length≤i)
  (hs:∀i ys H,i<xs.length→Pv i ys H→tt (cV σ (some (xs.getD i .cB)) bu) H fun b H2 =>
   if b=true then te (cV σ (some (xs.getD i .cB)) bu) H2 fun y H3=>H3 D=some (.lst ys)∧Pv (i+1) (ys++[y]) (upd H3 D (.lst (ys++[y])))
   else Pv (i+1) ys H2)
  (hd:∀ys H,Pv xs.length ys H→Q (.ref D) H):lE tt te bu σ Q (IJ K a) H1 D :=
 uC (J:=IJ K a) (Q:=Q) (D:=D) (H1:=H1) xs.length hn (fun i=>xs.getD i .cB) Pv h0 (fun ys H p=>⟨xs,hl _ ys H p,aaz _⟩)
  (fun i ys H p h=>⟨xs,xs[i],hl i ys H p,by simp [h]⟩) (fun i ys H x H' p h y=>⟨y.1,by
   have z:=y.2 xs (hl i ys H p)
   rw [Gd9,z] <;> rfl⟩) hD hs hd
end
def UT (x:Str):It:=⟨fun i _=>i<x.cps.size,fun i H v H'=>H'=H∧∃c,x.cps[i]?=some c∧v=.str ⟨#[c]⟩,fun i _=>i=x.cps.size⟩
theorem Jf {P:aaS} {w:abg} {K:aae} {tg:Expr} (ty:String) (G0:ty="str_ascii_iterator"∨ty="str_iterator") (it:aaB) (x:Str) (t:Tok) :
  Turn P w K tg (UT x) [it] it (fun i h=>h.IsStrIter it ty x t i) where
 mem:=by simp
 obj:=fun i h st b hb=>by
  have e:b=it:=by simpa using hb
  subst e
  obtain⟨o,e,c,d⟩:=st
  exact⟨o,e,fun v z=>by rw [d] at z;cases z⟩
 keep:=fun i h h' st k=>by
  obtain⟨o,e,r⟩:=st
  exact⟨o,k it (by simp) o e,r⟩
 item:=by
  intro X hP hw hK hc i pins s σ H E I hf st hg
  subst hP hw hK
  obtain⟨f0,f1,f2,f3,f4,f5⟩:=hf it (by simp)
  have wk:Walks X.prog X.w X.A it [it] [it] x.cps.size (SignAt x) (fun i h=>h.IsStrIter it ty x t i):=by
   rcases G0 with e|e
   ·subst e;exact Walks.strAscii (I.ok.hd hc) it x t
   ·subst e;exact Walks.strWide (I.ok.hd hc) it x t
  have hn:["enumerate","zip","dict_itemiterator","dict_reverseitemiterator","odict_iterator","itertools.zip_longest","itertools.pairwise"].contains ty=false:=by
   rcases G0 with e|e
   ·subst e;decide
   ·subst e;decide
  refine wk.item i s _ E hg st fun v h' tk hv Fy kk=>?_
  obtain⟨c,u,hc',rfl⟩:=hv
  have I1:Inv X pins σ H { s with heap:=h',toks:=tk }:=I.turned (fun b o hb e=>kk b o (by simpa using hb) e) f0 f1 f3 f4 f5
  obtain⟨o,e,ec,d⟩:=id Fy
  exact⟨_,rfl,Fx (s:={ s with heap:=h',toks:=tk }) e ec d hn ⟨.str ⟨#[c]⟩,H,I1,⟨u,rfl⟩,⟨rfl,c,hc',rfl⟩,Fy,fun b hb=>(hf b hb).1⟩⟩
 done:=by
  intro X hP hw hK hc i pins s σ H E I hf st hg
  subst hP hw hK
  obtain⟨f0,f1,f2,f3,f4,f5⟩:=hf it (by simp)
  have wk:Walks X.prog X.w X.A it [it] [it] x.cps.size (SignAt x) (fun i h=>h.IsStrIter it ty x t i):=by
   rcases G0 with e|e
   ·subst e;exact Walks.strAscii (I.ok.hd hc) it x t
   ·subst e;exact Walks.strWide (I.ok.hd hc) it x t
  have hi:i=x.cps.size:=hg
  subst hi
  exact wk.done s _ E st fun h' tk kk=>⟨rfl,I.turned (fun b o hb e=>kk b o (by simpa using hb) e) f0 f1 f3 f4 f5⟩
 self:=fun A i s Q E st h=>by
  rcases G0 with e|e
  ·subst e;exact wpAny_pyIter_striter_ascii st h
  ·subst e;exact wpAny_pyIter_striter_wide st h
def Wr (tl:TE):TI:=fun σ H R=>tl σ H fun x H1=>∃z,x=.str z∧R (UT z) H1
section
variable {X:Cx} {tg:Expr}
theorem O5 {l:Expr} {tl:TE} (hl:PE X l tl):PI X tg l (Wr tl):=by
 intro pins s σ H R I h
 refine thn (hl pins s σ H _ I h) fun v s1 ⟨x,H1,I1,r1,q1⟩=>?_
 obtain⟨z,e,q⟩:=q1
 subst e
 obtain⟨t,rfl⟩:=r1
 have fin:∀ty,(ty="str_ascii_iterator"∨ty="str_iterator")→V2 X pins σ tg R (.ref s1.heap.objs.size) { s1 with heap:=s1.heap.push { cls:=.type ty,data:=.fields #[.str z t,.int 0 0] } }:=fun ty G0=>by
  refine⟨s1.heap.objs.size,[s1.heap.objs.size],_,_,H1,rfl,I1.kept (t':=s1.toks) fun b o e=>aaE _ e,Jf ty G0 _ z t,⟨_,abe _ rfl,rfl,rfl⟩,fun b hb=>?_,q⟩
  have e:b=s1.heap.objs.size:=by simpa using hb
  subst e
  exact I1.II (aaz _) (I1.hok.fresh (aaz _))
 cases ha:z.cps.all (·<128)
 ·exact wpAny_pyIter_wide ha (fin _ (.inr rfl))
 ·exact wpAny_pyIter_ascii ha (fin _ (.inl rfl))
end
theorem Jg {tt:TT} {te:TE} {bu:List Nat} {σ:St} {H1:Hp} {Q:VK} {x:Str} {D:aaB} (hn:x.cps.size<aaj) (Pv:Nat→List V→Hp→Prop) (h0:Pv 0 [] (upd H1 D (.lst [])))
  (hD:∀i ys H,Pv i ys H→H D=some (.lst ys)∧ys.length≤i)
  (hs:∀i ys H,i<x.cps.size→Pv i ys H→tt (cV σ (some (.str ⟨#[x.cps.getD i 0]⟩)) bu) H fun b H2 =>
   if b=true then te (cV σ (some (.str ⟨#[x.cps.getD i 0]⟩)) bu) H2 fun y H3=>H3 D=some (.lst ys)∧Pv (i+1) (ys++[y]) (upd H3 D (.lst (ys++[y])))
   else Pv (i+1) ys H2)
  (hd:∀ys H,Pv x.cps.size ys H→Q (.ref D) H):lE tt te bu σ Q (UT x) H1 D :=
 uC (J:=UT x) (Q:=Q) (D:=D) (H1:=H1) x.cps.size hn (fun i=>.str ⟨#[x.cps.getD i 0]⟩) Pv h0 (fun _ _ _=>rfl) (fun _ _ _ _ h=>h)
  (fun i ys H v H' p h y=>⟨y.1,by
   obtain⟨c,e,rfl⟩:=y.2
   rw [adf,e] <;> rfl⟩) hD hs hd
section
variable {X:Cx}
theorem uY {zs:List Str}:∀{us:List aai},Vals (zs.map V.str) us→StrsAre us zs:=by
 induction zs with
 | nil=>intro us r;rw [abJ] at r;cases r;exact .nil
 | cons z zs ih =>
  intro us r
  rw [aa5] at r
  cases r with
  | cons r1 r2 =>
   obtain⟨t,e⟩:=r1
   subst e
   exact .cons z t (ih r2)
def rJoin (K:aae):V→List V→Hp→VK→Prop:=fun x vs H Q=>∃sep l zs,x=.str sep∧vs=[.ref l]∧(aL K H l (zs.map V.str)∨bT K H l (zs.map V.str))∧(zs.map (·.length)).sum+zs.length * sep.length≤16777216∧Q (.str (adz sep zs)) H
theorem cf:NK X "str.join" (rJoin X.K):=by
 intro pins s σ H x vs v us Q I rx rv h
 obtain⟨sep,l,zs,rfl,rfl,hq,hz,q⟩:=h
 obtain⟨t,rfl⟩:=rx
 obtain⟨u,rfl,ru⟩:=vals1 rv
 cases ru
 rcases hq with hq|hq
 ·obtain⟨its,r',pl,_⟩:=I.list hq
  exact join_list (items:=its.toArray) pl.isList (uY r') hz fun t' k=>⟨.str _,H,I.tok _,⟨t',rfl⟩,q⟩
 ·obtain⟨its,r',pl,_⟩:=I.tuple hq
  exact join_tuple (items:=its.toArray) pl (uY r') hz fun t' k=>⟨.str _,H,I.tok _,⟨t',rfl⟩,q⟩
theorem Cp {bs:List Bool}:∀{us:List aai},Vals (bs.map V.bl) us→us=bs.map adF:=by
 induction bs with
 | nil=>intro us r;rw [abJ] at r;cases r;rfl
 | cons z zs ih =>
  intro us r
  rw [aa5] at r
  cases r with
  | cons r1 r2 =>
   have e:_=adF z:=r1
   rw [e,ih r2]
   rfl
theorem all_range (bs:List Bool):((abC bs.length).all fun i=>(bs[i]?).getD true)=bs.all id:=by
 rw [ab0,aa4,aa4]
 constructor
 ·intro h b hb
  obtain⟨i,hi,rfl⟩:=List.getElem_of_mem hb
  have z:=h i (acv.mpr hi)
  simpa [hi] using z
 ·intro h i hi
  have hi':=acv.mp hi
  have z:=h _ (aap hi')
  simpa [hi'] using z
theorem Jh:d8 X (.builtin "all") (fun xs H Q=>∃(p:aaB) (bs:List Bool),xs=[.ref p]∧X.calm=true∧aL X.K H p (bs.map V.bl)∧Q (.bl (bs.all id)) H):=by
 intro pins s σ H xs us Q I r h
 obtain⟨p,bs,rfl,hc,hq,q⟩:=h
 obtain⟨u,rfl,rx⟩:=vals1 r
 cases rx
 obtain⟨its,r',pl,hz⟩:=I.list hq
 have ei:=Cp r'
 have t9:p<s.heap.objs.size:=by
  obtain⟨_,e,_⟩:=pl.isList
  exact aaV e
 refine call_all_walk (wpAny_pyIter_list pl.isList ?_)
 refine⟨s.heap.objs.size,[s.heap.objs.size,p],[s.heap.objs.size],its.toArray.size,_,_,fun i=>(bs[i]?).getD true,rfl,Walks.list (A:=X.A.in1) (I.ok.hd hc) _ p (abd t9) its.toArray,
  ⟨⟨_,abe _ rfl,rfl,rfl⟩,pl.isList.push _⟩,fun i v s' Q' E' hP hQ=>?_,fun h' tk hk=>?_⟩
 ·have hP':its[i]?=some v:=by simpa using hP
  rw [ei,aa6] at hP'
  cases hb:bs[i]? with
  | none=>rw [hb] at hP';cases hP'
  | some b =>
   rw [hb] at hP'
   have ev:adF b=v:=aa7 hP'
   subst ev
   simp only [hb,adU] at hQ
   exact wpAny_truthy_bool hQ
 ·have el:its.toArray.size=bs.length:=by rw [aaH,ei,Lm9]
  rw [el,all_range]
  refine⟨.bl (bs.all id),H,I.kept (t':=tk) fun b o e=>hk b o (fun hm=>?_) (aaE _ e),rfl,q⟩
  rw [aal.mp hm] at e
  exact acd _ (aaV e)
end
end L2
namespace L2
open PySem PySem.Spec PyProof.Rows
section
variable {X:Cx}
def Ws:V→Option Int→Option Int→Hp→VK→Prop:=fun x lo hi H Q=>∃z,x=.str z∧z.length≤aaj∧Q (.str (adg z lo hi)) H
theorem part_of {v:aai} {o:Option Int} (p:IsPart v o):∃q:Option (Int × Tok),v=partValue q∧q.map (·.1)=o:=by
 cases p with
 | none=>exact⟨none,rfl,rfl⟩
 | int i t=>exact⟨some (i,t),rfl,rfl⟩
theorem uZ:RM X Ws:=by
 intro pins s σ H x v vl vu lo hi sl Q I rx hs pl pu h
 obtain⟨z,rfl,hz,q⟩:=h
 obtain⟨t,rfl⟩:=rx
 obtain⟨ql,rfl,el⟩:=part_of pl
 obtain⟨qu,rfl,eu⟩:=part_of pu
 refine⟨"str",_,F.slot_str_getitem.lookup,typeIs_str _ _ _,wpAny_getItem_str_slice (l:=ql) (u:=qu) (st:=none) hs rfl ?_⟩
 have e:sliceMade z t ql qu none=if ((1:Int) == 1 && (adh lo hi 1 z.length).length == z.length)=true then .val (.str z t) else .str ⟨((adh lo hi 1 z.length).filterMap (z.cps[·]?)).toArray⟩:=by
  unfold sliceMade slicePicked
  rw [el,eu]
  rfl
 rw [e]
 exact post_val_or_str ⟨abj (Txt.slice_le z lo hi) hz,fun t' k=>⟨.str (adg z lo hi),H,I.tok _,⟨t',rfl⟩,q⟩⟩
theorem Ji {z:Str} {j:Int} (h0:0≤j) (h1:j≤z.length):(adg z none (some j)).cps.toList=z.cps.toList.take j.toNat:=by
 have e:=eq_of_beq (slice_closes_toL (x:=z) h0 h1)
 rw [e]
 simp
theorem G6 {z:Str} {i j:Int} (h0:0≤i) (h1:i≤j) (h2:j≤z.length):(adg z (some i) (some j)).cps.toList=(z.cps.toList.drop i.toNat).take (j - i).toNat:=by
 have e:=eq_of_beq (slice_closesL (x:=z) h0 h1 h2)
 rw [e]
end
inductive Dt where
 | cB|bl (b:Bool)|int (i:Int)|str (x:Str)|tup (ds:List Dt)
 deriving Inhabited
inductive uc (K:aae) (H:Hp):Dt→V→Prop
 | cB:uc K H .cB .cB
 | bl (b:Bool):uc K H (.bl b) (.bl b)
 | int (i:Int):uc K H (.int i) (.int i)
 | str (x:Str):uc K H (.str x) (.str x)
 | tup {ds:List Dt} {xs:List V} {a:aaB} (h:bT K H a xs) (l:ds.length=xs.length) (r:∀(i:Nat) (h1:i<ds.length) (h2:i<xs.length),uc K H ds[i] xs[i]):uc K H (.tup ds) (.ref a)
mutual
def Dt.deep:Dt→Nat
 | .tup ds=>Dt.ja ds+1
 | _=>0
def Dt.ja:List Dt→Nat
 | []=>0
 | d::r=>max (Dt.deep d) (Dt.ja r)
end
theorem rP:∀{ds:List Dt} {i:Nat} (h:i<ds.length),(ds[i]).deep≤Dt.ja ds
 | d::r,0,_=>by
  show d.deep≤max (Dt.deep d) (Dt.ja r)
  omega
 | d::r,i+1,h=>by
  have z:=rP (ds:=r) (i:=i) (by simpa using h)
  show(r[i]'(by simpa using h)).deep≤max (Dt.deep d) (Dt.ja r)
  omega
mutual
def FV:Dt→Dt→Bool
 | .cB,.cB=>true
 | .bl a,.bl b=>a == b
 | .bl a,.int b=>(if a then 1 else 0) == b
 | .int a,.bl b=>a == (if b then 1 else 0)
 | .int a,.int b=>a == b
 | .str a,.str b=>a == b
 | .tup a,.tup b=>u5 a b
 | _,_=>false
def u5:List Dt→List Dt→Bool
 | [],[]=>true
 | a::r,b::q=>FV a b && u5 r q
 | _,_=>false
end
theorem oB:∀(a b:List Dt),((abC (min a.length b.length)).all (fun i=>FV (a.getD i .cB) (b.getD i .cB)) && a.length == b.length)=u5 a b
 | [],[]=>by unfold u5;rfl
 | [],b::q=>by unfold u5;simp
 | a::r,[]=>by unfold u5;simp
 | a::r,b::q=>by
  have ih:=oB r q
  rw [u5,← ih]
  have e:min (a::r).length (b::q).length=min r.length q.length+1:=by simp only [aar];omega
  rw [e,List.range_succ_eq_map,abl,aeT]
  have e2:((a::r).length == (b::q).length)=(r.length == q.length):=by simp
  rw [e2,Bool.and_assoc]
  rfl
theorem Jj {K:aae} {H:Hp} {X:Cx} {pins:List (aaB × Obj)} {σ:St} {s:aan} (I:Inv X pins σ H s) (hK:X.K=K) :
  ∀(n:Nat) {d e:Dt} {x:V},d.deep≤n→uc K H d x→uc K H e x→FV d e=true:=by
 subst hK
 intro n
 induction n with
 | zero =>
  intro d e x hd h1 h2
  cases h1 with
  | cB=>cases h2;rfl
  | bl a=>cases h2;show(a == a)=true;exact beq_self_eq_true a
  | int a=>cases h2;show(a == a)=true;exact beq_self_eq_true a
  | str a=>cases h2;show(a == a)=true;exact beq_self_eq_true a
  | tup h l r=>exact absurd hd (by simp [Dt.deep])
 | succ n ih =>
  intro d e x hd h1 h2
  cases h1 with
  | @tup ds xs a h l r =>
   cases h2 with
   | @tup es ys b h' l' r' =>
    have hx:xs=ys:=I.rL h h'
    subst hx
    show u5 ds es=true
    rw [← oB,aaW,aa4]
    refine⟨fun j hj=>?_,by rw [l,l'];simp⟩
    have hj':=acv.mp hj
    have g1:ds.getD j .cB=ds[j]'(by omega):=by simp [Gd9,(show j<ds.length by omega)]
    have g2:es.getD j .cB=es[j]'(by omega):=by simp [Gd9,(show j<es.length by omega)]
    rw [g1,g2]
    refine ih ?_ (r j (by omega) (by omega)) (r' j (by omega) (by omega))
    have z:=rP (ds:=ds) (i:=j) (by omega)
    have hd':Dt.ja ds+1≤n+1:=hd
    omega
  | cB=>exact ih (by simp [Dt.deep]) .cB h2
  | bl a=>exact ih (by simp [Dt.deep]) (.bl a) h2
  | int a=>exact ih (by simp [Dt.deep]) (.int a) h2
  | str a=>exact ih (by simp [Dt.deep]) (.str a) h2
theorem O6 {K:aae} {H:Hp} {X:Cx} {pins:List (aaB × Obj)} {σ:St} {s:aan} (I:Inv X pins σ H s) (hK:X.K=K) :
  ∀(n:Nat) (A:abi) {d e:Dt} {x y:V} {u v:aai},d.deep≤n→A.units+n<cLine→uc K H d x→uc K H e y→RelV x u→RelV y v→aeN A s u v (FV d e):=by
 subst hK
 intro n
 induction n with
 | zero =>
  intro A d e x y u v hd hu h1 h2 ru rv
  cases h1 with
  | cB =>
   cases ru
   cases h2 with
   | cB=>cases rv;exact aea _
   | bl b=>cases rv;exact aef b
   | int b=>obtain⟨t,rfl⟩:=rv;exact aer b t
   | str b=>obtain⟨t,rfl⟩:=rv;exact aes b t
   | tup h l r=>cases rv;obtain⟨its,_,p,_⟩:=I.tuple h;exact SeqAt.EqAt.none_tuple p (by omega)
  | bl a =>
   cases ru
   cases h2 with
   | cB=>cases rv;exact aeg a
   | bl b=>cases rv;exact aei a b
   | int b=>obtain⟨t,rfl⟩:=rv;exact aet a b t
   | str b=>obtain⟨t,rfl⟩:=rv;exact aeu a b t
   | tup h l r=>cases rv;obtain⟨its,_,p,_⟩:=I.tuple h;exact SeqAt.EqAt.bool_tuple a p (by omega)
  | int a =>
   obtain⟨t',rfl⟩:=ru
   cases h2 with
   | cB=>cases rv;exact aev a t'
   | bl b=>cases rv;exact aew a t' b
   | int b=>obtain⟨t,rfl⟩:=rv;exact aeD a t' b t
   | str b=>obtain⟨t,rfl⟩:=rv;exact adt a t' b t
   | tup h l r=>cases rv;obtain⟨its,_,p,_⟩:=I.tuple h;exact SeqAt.EqAt.int_tuple a t' p (by omega)
  | str a =>
   obtain⟨t',rfl⟩:=ru
   cases h2 with
   | cB=>cases rv;exact aex a t'
   | bl b=>cases rv;exact aey a t' b
   | int b=>obtain⟨t,rfl⟩:=rv;exact adu a t' b t
   | str b=>obtain⟨t,rfl⟩:=rv;exact aeE a t' b t
   | tup h l r=>cases rv;obtain⟨its,_,p,_⟩:=I.tuple h;exact SeqAt.EqAt.str_tuple a t' p (by omega)
  | tup h l r=>exact absurd hd (by simp [Dt.deep])
 | succ n ih =>
  intro A d e x y u v hd hu h1 h2 ru rv
  cases h1 with
  | @tup ds xs a h l r =>
   cases ru
   obtain⟨its,r1,p1,_⟩:=I.tuple h
   cases h2 with
   | cB=>cases rv;exact SeqAt.EqAt.tuple_none p1 (by omega)
   | bl b=>cases rv;exact SeqAt.EqAt.tuple_bool b p1 (by omega)
   | int b=>obtain⟨t,rfl⟩:=rv;exact SeqAt.EqAt.tuple_int b t p1 (by omega)
   | str b=>obtain⟨t,rfl⟩:=rv;exact SeqAt.EqAt.tuple_str b t p1 (by omega)
   | @tup es ys b h' l' r' =>
    cases rv
    obtain⟨dS,r2,p2,_⟩:=I.tuple h'
    have LX:=r1.length
    have LY:=r2.length
    have key:SeqAt.RcAt A s (.ref a) (.ref b) ((abC (min its.toArray.size dS.toArray.size)).all (fun i=>FV (ds.getD i .cB) (es.getD i .cB)) && its.toArray.size == dS.toArray.size):=by
     refine SeqAt.RcAt.tuples p1 p2 (by omega) fun j j1 j2=>?_
     have j1':j<its.length:=by simpa using j1
     have j2':j<dS.length:=by simpa using j2
     have hx:=r j (by omega) (by omega)
     have hy:=r' j (by omega) (by omega)
     obtain⟨u1,e1,q1⟩:=r1.get (i:=j) (x:=xs[j]) (by simp)
     obtain⟨u2,e2,q2⟩:=r2.get (i:=j) (x:=ys[j]) (by simp)
     have c1:its.toArray[j]=u1:=by
      have z:=aau.mp e1
      simpa using z.2
     have c2:dS.toArray[j]=u2:=by
      have z:=aau.mp e2
      simpa using z.2
     rw [c1,c2]
     have g1:ds.getD j .cB=ds[j]:=by simp [Gd9,(show j<ds.length by omega)]
     have g2:es.getD j .cB=es[j]:=by simp [Gd9,(show j<es.length by omega)]
     rw [g1,g2]
     refine ih A.in1 ?_ (by show A.units+1+n<cLine;omega) hx hy q1 q2
     have z:=rP (ds:=ds) (i:=j) (by omega)
     have hd':Dt.ja ds+1≤n+1:=hd
     omega
    have e0:((abC (min its.toArray.size dS.toArray.size)).all (fun i=>FV (ds.getD i .cB) (es.getD i .cB)) && its.toArray.size == dS.toArray.size)=FV (.tup ds) (.tup es):=by
     rw [aaH,aaH,← LX,← LY,← l,← l']
     rw [oB]
     rfl
    rw [e0] at key
    by_cases hab:a=b
    ·subst hab
     have hx:xs=ys:=I.rL h h'
     subst hx
     have ed:FV (.tup ds) (.tup es)=true:=Jj I rfl (n+1) hd (.tup h l r) (.tup h' l' r')
     rw [ed]
     exact aea _
    ·exact SeqAt.EqAt.of_refs hab key
  | cB=>exact ih A (by simp [Dt.deep]) (by omega) .cB h2 ru rv
  | bl a=>exact ih A (by simp [Dt.deep]) (by omega) (.bl a) h2 ru rv
  | int a=>exact ih A (by simp [Dt.deep]) (by omega) (.int a) h2 ru rv
  | str a=>exact ih A (by simp [Dt.deep]) (by omega) (.str a) h2 ru rv
theorem bT.same {K:aae} {H H':Hp} (e:ai H H') {a:aaB} {xs:List V} (h:bT K H a xs):bT K H' a xs:=by
 rcases h with(h|⟨o,h⟩)|h
 ·exact .inl (.inl (e _ _ h))
 ·exact .inl (.inr ⟨o,e _ _ h⟩)
 ·exact .inr h
end L2
namespace L2
open PySem PySem.Spec PyProof.Rows
structure Wt (P:aaS) (w:abg) (outer:List Env) (H:Hp) (s:aan) (x:aaB) (cls:aai) (H':Hp) (s':aan):Prop where
 os:s'.os=s.os
 bare:AllBare s'.gens
 ex:∃(B:Heap) (a0:aai),aeU B outer x cls a0 s'.heap∧ly P w H' B∧(∀b o,s.heap.get? b=some o→H b=none→b∉g9 outer→B.get? b=some o) ∧
  (∀b o,s.heap.get? b=some o→b∉g9 outer→∃o',B.get? b=some o')
 slot:∀b o,s.heap.get? b=some o→H b=none→b∈g9 outer→∃sl,s'.heap.get? b=some { o with slots:=sl }
 free:∀b o,s.heap.get? b=some o→H b=none→H' b=none
 lj:∀b xs,H b=some (.tup xs)→H' b=some (.tup xs)
 ju:∀b o u,H b=some (.xf o u)→H' b=some (.xf o u)
 lq:∀b ps,H b=some (.Li ps)→∃more,H' b=some (.Li (ps++more))
def Ef (P:aaS) (w:abg):GX:=fun outer H s E e s'=>∃(x:aaB) (cls:aai) (H':Hp),e=.ref x∧Wt P w outer H s x cls H' s'∧E cls none H'
section
variable {P:aaS} {w:abg} {K:aae} {mg:Str→Option aai} {base:Heap} {N:List Str} {qual:Str} {scope:Scope} {f:aaB} {cd:aai} {A:abi} {outer:List Env} {s₀:aan} {H₀:Hp} {E:XK}
abbrev jt (P:aaS) (w:abg) (K:aae) (mg:Str→Option aai) (base:Heap) (N:List Str) (qual:Str) (scope:Scope) (f:aaB) (cd:aai) (A:abi) (outer:List Env) (s:aan) (H:Hp) (E:XK):Cx :=
 Eu (Ef P w) P w K mg base N qual scope f cd A outer s H E
theorem u6 (env:Env) (l:List Env) {a:aaB} (h:env.frame=some a):g9 (env::l)=a::g9 l:=by
 unfold g9
 rw [ace,h]
theorem Cq {h h':Heap} {l:List Env} {B:Heap} (sm:h.UpToSlots h') (fl:h.FunFrames B l) {b:aaB} {o:Obj} (hb:b∈g9 l) (e:h.get? b=some o):∃sl,h'.get? b=some { o with slots:=sl }:=by
 obtain⟨_,o',e',hd⟩:=fl.mem hb
 rw [e] at e'
 cases e'
 exact sm b o e hd
theorem RX:Passes (Ef P w) (jt P w K mg base N qual scope f cd A outer s₀ H₀ E) E:=by
 intro pins σ H s e s' I h
 obtain⟨x,cls,H',rfl,F,hE⟩:=h
 obtain⟨B,a0,fl,hok,kp,th⟩:=F.ex
 have FU:(jt P w K mg base N qual scope f cd A outer s₀ H₀ E).env.frame=some s₀.heap.objs.size:=rfl
 have st:g9 (jt P w K mg base N qual scope f cd A outer s₀ H₀ E).stack=s₀.heap.objs.size::g9 outer:=u6 _ _ FU
 have old:∀b o,s₀.heap.get? b=some o→b∉g9 outer→b∉g9 (jt P w K mg base N qual scope f cd A outer s₀ H₀ E).stack:=fun b o q hb hm=>by
  rw [st] at hm
  rcases aaN.mp hm with z|z
  ·exact abd (aaV q) z
  ·exact hb z
 refine wpAny_leaves_onW (L:=s₀.heap.objs.size) I.ok.frames FU fl fun h1 fl1 Lo=>?_
 refine⟨x,cls,H',rfl,⟨F.os.trans I.os,F.bare,⟨B,a0,fl1,hok,fun b o q n hb=>?_,fun b o q hb=>?_⟩,fun b o q n hb=>?_,fun b o q n=>?_,fun b xs q=>F.lj b xs (I.base.lj b xs q),fun b o u q=>F.ju b o u (I.base.ju b o u q),fun b ps q=>?_⟩,hE⟩
 ·exact kp b o (I.base.keep b o q n hb (by intro z;cases z)) (I.base.free b o q n (by intro z;cases z)) (old b o q hb)
 ·obtain⟨o',q'⟩:=I.base.there b o q (by intro z;cases z)
  exact th b o' q' (old b o q hb)
 ·obtain⟨sl,q1⟩:=I.base.slot b o q n hb (by intro z;cases z)
  obtain⟨QL,q2⟩:=F.slot b _ q1 (I.base.free b o q n (by intro z;cases z)) (by rw [st];exact aam _ hb)
  obtain⟨RY,q3⟩:=Cq (l:=(jt P w K mg base N qual scope f cd A outer s₀ H₀ E).stack) Lo fl.2.2.1 (by rw [st];exact aam _ hb) q2
  exact⟨RY,q3⟩
 ·obtain⟨o',q'⟩:=I.base.there b o q (by intro z;cases z)
  exact F.free b o' q' (I.base.free b o q n (by intro z;cases z))
 ·obtain⟨m1,e1⟩:=I.base.lq b ps q
  obtain⟨m2,e2⟩:=F.lq b _ e1
  exact⟨m1++m2,by rw [e2,acH]⟩
theorem Cr {pins:List (aaB × Obj)} {σ:St} {H:Hp} {s:aan} {h1:Heap} {e:aaB} {cls:aai} {vs:List aai} (I:Inv (jt P w K mg base N qual scope f cd A outer s₀ H₀ E) pins σ H s) (hx:Heap.MadeExcOf s.heap h1 e cls vs) (hE:E cls none H) :
  (jt P w K mg base N qual scope f cd A outer s₀ H₀ E).xe (.ref e) { s with heap:=h1 }:=by
 have FU:(jt P w K mg base N qual scope f cd A outer s₀ H₀ E).env.frame=some s₀.heap.objs.size:=rfl
 have st:g9 (jt P w K mg base N qual scope f cd A outer s₀ H₀ E).stack=s₀.heap.objs.size::g9 outer:=u6 _ _ FU
 have old:∀b o,s₀.heap.get? b=some o→b∉g9 outer→b∉g9 (jt P w K mg base N qual scope f cd A outer s₀ H₀ E).stack:=fun b o q hb hm=>by
  rw [st] at hm
  rcases aaN.mp hm with z|z
  ·exact abd (aaV q) z
  ·exact hb z
 have LZ:∀env∈(jt P w K mg base N qual scope f cd A outer s₀ H₀ E).stack,∀b,env.frame=some b→b∈g9 (jt P w K mg base N qual scope f cd A outer s₀ H₀ E).stack:=fun env he b hb=>adw.mpr ⟨env,he,hb⟩
 have hB:(acI s.heap (g9 (jt P w K mg base N qual scope f cd A outer s₀ H₀ E).stack)).StaysIn s.heap:=fun b o q=>aeC _ q
 have get:∀b o,s.heap.get? b=some o→b∉g9 (jt P w K mg base N qual scope f cd A outer s₀ H₀ E).stack→(acI s.heap (g9 (jt P w K mg base N qual scope f cd A outer s₀ H₀ E).stack)).get? b=some o:=fun b o q hb=>aeo _ q hb
 refine wpAny_leaves_madeW (base:=acI s.heap (g9 (jt P w K mg base N qual scope f cd A outer s₀ H₀ E).stack)) (h:=s.heap) (L:=s₀.heap.objs.size) I.ok.frames FU hB (PySem.W.funFrames_hide I.stack LZ) hx fun h2 t fl ht hn sm=>?_
 have hok:ly P w H (acI s.heap (g9 (jt P w K mg base N qual scope f cd A outer s₀ H₀ E).stack)):=fun b o q=>by
  refine(I.hok b o q).Eh (fun c u hc r=>get c u r fun hm=>?_) (fun _ r=>r) fun _ _ r=>r
  have z:=I.zI c hm
  rcases hc with rfl|hc
  ·rw [q] at z;cases z
  ·rw [hc] at z;cases z
 refine⟨e,cls,H,rfl,⟨I.os,I.bare,⟨_,_,fl,hok,fun b o q n hb=>?_,fun b o q hb=>?_⟩,fun b o q n hb=>?_,fun b o q n=>I.base.free b o q n (by intro z;cases z),I.base.lj,I.base.ju,I.base.lq⟩,hE⟩
 ·exact get b o (I.base.keep b o q n hb (by intro z;cases z)) (old b o q hb)
 ·obtain⟨o',q'⟩:=I.base.there b o q (by intro z;cases z)
  exact⟨o',get b o' q' (old b o q hb)⟩
 ·obtain⟨sl,q1⟩:=I.base.slot b o q n hb (by intro z;cases z)
  have q2:=hx.keeps b _ q1
  have RZ:b∈g9 (jt P w K mg base N qual scope f cd A outer s₀ H₀ E).stack:=by rw [st];exact aam _ hb
  obtain⟨_,o3,e3,hd⟩:=I.stack.mem RZ
  rw [q1] at e3
  cases e3
  obtain⟨RY,q3⟩:=sm b _ q2 hd
  exact⟨RY,q3⟩
end
theorem O7 {K:aae} {h:Heap} {C:aaB} {bmB:List aai} {newId:String} (X:K.In h) (q:abG K C bmB newId=true) :
  ∃(bm:List aai) (Nn:aaB) (n1 n2:Str) (bs:List aai) (hd:Bool) (sn:List Str) (sub:List aai) (ab:Bool) (col:Option Bool) (dd:Option aaB) (k0 k1 k2 k3 k5:Option aai) (mN:Str→Option aai),
   h.get? C=some (excClassObj n1 n2 C Nn bs bm hd sn sub ab col dd k0 k1 k2 k3 k5 newId)∧h.Ns Nn mN∧mN "__init__"=none∧OwnTail h bmB bm:=by
 unfold abG at q
 split at q
 ·rename_i dd Wu sl look
  split at q
  ·rename_i C1 bm k0 k1 k2 k3 nn k5 R0 esl
   simp only [aaW,beq_iff_eq,Bool.not_eq_true'] at q
   obtain⟨⟨⟨⟨⟨q1,q2⟩,q3⟩,q4⟩,q5⟩,q6⟩:=q
   subst q1
   subst q2
   obtain⟨c1,c2,c3,c4,c5,c6,c7,c8,c9,c10,c11⟩:=Wu
   dsimp only at R0 q3 q5 q6
   subst R0
   subst q3
   obtain⟨sll⟩:=sl
   have es:sll=[k0,k1,k2,k3,some (.builtin nn),k5]:=esl
   subst es
   exact⟨bm,c4,c1,c5,c2,c6,c7,c8,c9,c10,dd,k0,k1,k2,k3,k5,_,X _ _ look,.of_isNs (PySem.W.isNs_of_in X q5),PySem.W.nsMap_none_of_in X q5 q6,PySem.W.tail_of_in X q4⟩
  ·cases q
 ·cases q
abbrev Jk:List aai:=[.type "ValueError",.type "Exception",.type "BaseException",.type "object"]
abbrev u7:String:="ValueError.__new__"
section
variable {P:aaS} {w:abg} {K:aae} {mg:Str→Option aai} {base:Heap} {N:List Str} {qual:Str} {scope:Scope} {f:aaB} {cd:aai} {A:abi} {outer:List Env} {s₀:aan} {H₀:Hp} {E:XK}
def O8 (C:aaB) (E:XK) (ta:TA):TS:=fun _ σ H=>ta σ H fun vs H1=>vs.length≤aaj∧E (.ref C) none H1
theorem lF {C:aaB} {x:Str} {np cpos pos:Pos} {e:Expr} {es:List Expr} {t:TA} (ex:abG K C Jk u7=true) (hm:mg x=some (.ref C)) (hg:Gl (jt P w K mg base N qual scope f cd A outer s₀ H₀ E) x)
  (ha:PA (jt P w K mg base N qual scope f cd A outer s₀ H₀ E) (e::es) t) (xm:(x == ("__debug__":Str))=false:=by decide)
  (he:starEach (e::es) (jt P w K mg base N qual scope f cd A outer s₀ H₀ E).env=(false,eval e (jt P w K mg base N qual scope f cd A outer s₀ H₀ E).env)::starEach es (jt P w K mg base N qual scope f cd A outer s₀ H₀ E).env:=by rfl)
  (hpl:(backTo cpos (starEach es (jt P w K mg base N qual scope f cd A outer s₀ H₀ E).env)).any (·.1)=false:=by rfl) :
  PS (jt P w K mg base N qual scope f cd A outer s₀ H₀ E) (.Raise (some (.Call (.Name x np) (e::es) [] cpos)) none pos) (O8 C E t):=by
 intro pins s σ H D I h
 obtain⟨bm,Nn,n1,n2,bs,hd,sn,sub,ab,col,dd,k0,k1,k2,k3,k5,mN,gC,gN,gi,gT⟩:=O7 I.mod.Ny ex
 refine wpAny_Raise_call_subU (C:=C) (nm:=n1) (q:=n2) (N:=Nn) (bs:=bs) (bm:=bm) (hdct:=hd) (sn:=sn) (sub:=sub) (ab:=ab) (col:=col) (dd:=dd) (k0:=k0) (k1:=k1) (k2:=k2) (k3:=k3) (k5:=k5) (mN:=mN)
  ads (by decide +kernel) ads (gT.hasType (by decide +kernel)) (I.ok.hd rfl) (by rw [he];show(false || (backTo cpos (starEach es (jt P w K mg base N qual scope f cd A outer s₀ H₀ E).env)).any (·.1))=false;rw [hpl];rfl) gi (m3 I hg hm ⟨rfl,?_⟩ xm)
 have hA:=ha cpos pins s σ H _ I h
 rw [he] at hA ⊢
 refine ac6 (thn hA fun us s2 ⟨vs,H2,I2,r2,hz,q2⟩=>⟨rfl,?_,I2.bk _ _ gC,gN.keeps I2.bk,gT.keeps I2.bk,fun h' x' hx=>Cr I2 hx q2⟩)
 show us.length≤aaj
 rw [← r2.length]
 exact hz
theorem dn.QP {x qual:Str} {st:Stmt} {f:aaB} {fd:aa9} {N ps:List Str} {k:Nat} {sp:Sp} (F:dn K x qual st f fd) (S:aC N ps (au st)) (len:∀vs H Q E,sp vs H Q E→vs.length=ps.length)
  (Ck:∀(cJ:aai) (A:abi) (outer:List Env) (s:aan) (H:Hp) (vs:List V) (Q:VK) (E:XK),dR k (A.deeper (envOfC qual (au st) s.heap.objs.size f cJ))→sp vs H Q E →
   ∃t,Cf (jt P w K mg base N qual (au st) f cJ A outer s H E) (gp st) t∧t { nx:=fun _ H'=>Q .cB H',rt:=Q } (start N vs) H):a4 P w K mg base (Ef P w) (k+1) f fd ps sp:=by
 obtain⟨oc,od,kV,doc,pm,an,cJ,ct,LM,rfl,lk,hcd⟩:=F.ex
 refine NJ lk hcd S len fun A outer s H vs Q E hr Lm=>?_
 exact Ck cJ A outer s H vs Q E hr Lm
theorem jb:PassesOwn (model P w) (jt P w K mg base N qual scope f cd A outer s₀ H₀ E).A (jt P w K mg base N qual scope f cd A outer s₀ H₀ E).env (jt P w K mg base N qual scope f cd A outer s₀ H₀ E).xe:=by
 intro e s' h
 have z:=PassesOwn.leaving (M:=model P w) (A:=(jt P w K mg base N qual scope f cd A outer s₀ H₀ E).A) (env:=(jt P w K mg base N qual scope f cd A outer s₀ H₀ E).env) (Q₁:=fun e IW=>Ef P w outer H₀ s₀ E e IW) (E₁:=fun e' IW=>Ef P w outer H₀ s₀ E e' IW)
 exact z e s' h
end
theorem Inv.land {X:Cx} {pins gH:List (aaB × Obj)} {σ:St} {H H':Hp} {s s':aan} {h6:Heap} {x:aaB} {cls:aai} (I:Inv X gH σ H s) (hp:∀p∈pins,p∈X.pn++gH) (hex:X.ex=[]) (GO:∀y,X.fn y=true)
  (zQ:X.stack=X.env::X.outer∧X.env.frame=some X.env.locals) (F:Wt X.prog X.w X.stack H s x cls H' s') {B:Heap} {a0:aai} (fl:aeU B X.stack x cls a0 s'.heap) (hok:ly X.prog X.w H' B)
  (kp:∀b o,s.heap.get? b=some o→H b=none→b∉g9 X.stack→B.get? b=some o) (th:∀b o,s.heap.get? b=some o→b∉g9 X.stack→∃o',B.get? b=some o') (sm:s'.heap.UpToSlots h6) (hB:B.StaysIn h6) :
  Inv X pins σ H' { s' with heap:=h6 }:=by
 have L3:g9 X.stack=X.env.locals::X.fs:=by rw [zQ.1];exact u6 _ _ zQ.2
 have UU:∀b:aaB,b∉X.ex:=fun b z=>by rw [hex] at z;cases z
 have UW:∀b,b≠X.env.locals→b∉X.fs→b∉g9 X.stack:=fun b h1 h2 hm=>by
  rw [L3] at hm
  rcases aaN.mp hm with z|z
  ·exact h1 z
  ·exact h2 z
 have Rn:∀b o,X.s₀.heap.get? b=some o→b≠X.env.locals:=fun b o e=>abd (aaY (aaV e) I.ok.above)
 have cnf:∀y c,X.env.cells.lookup y=some c→c∉X.fs:=fun y c e hm=>by
  obtain⟨_,o,ho,_⟩:=I.ok.pG.mem hm
  exact absurd (aaY (aaV ho) (I.ok.OC y c (GO y) e)) (acd _)
 have cellK:∀y c v,X.env.cells.lookup y=some c→s.heap.IsCell c v→h6.IsCell c v:=fun y c v e ⟨o,ho,hd⟩=>⟨o,hB _ _ (kp c o ho (I.gG y c e) (UW c (I.GN y c e) (cnf y c e))),hd⟩
 refine⟨I.ok,F.os.trans I.os,F.bare,⟨fun b o e n hb hx=>?_,fun b o e n hb hx=>?_,fun b o e n hx=>?_,fun b o e hx=>?_,fun b xs e=>F.lj b xs (I.base.lj b xs e),fun b o u e=>F.ju b o u (I.base.ju b o u e),fun b ps e=>?_⟩,?_,fun y c e=>?_,?_,fun y c e=>?_,fun p hpm=>?_,hok.kept hB,I.len⟩
 ·exact hB _ _ (kp b o (I.base.keep b o e n hb hx) (I.base.free b o e n hx) (UW b (Rn b o e) hb))
 ·obtain⟨sl,e1⟩:=I.base.slot b o e n hb hx
  have hm:b∈g9 X.stack:=by rw [L3];exact aam _ hb
  obtain⟨QL,e2⟩:=F.slot b _ e1 (I.base.free b o e n hx) hm
  obtain⟨RY,e3⟩:=Cq sm fl.2.2.1 hm e2
  exact⟨RY,e3⟩
 ·obtain⟨o',e1⟩:=I.base.there b o e hx
  exact F.free b o' e1 (I.base.free b o e n hx)
 ·obtain⟨o',e1⟩:=I.base.there b o e hx
  by_cases hb:b∈X.fs
  ·have hm:b∈g9 X.stack:=by rw [L3];exact aam _ hb
   obtain⟨_,o2,e2,hd⟩:=fl.2.2.1.mem hm
   obtain⟨sl,e3⟩:=sm b o2 e2 hd
   exact⟨_,e3⟩
  ·obtain⟨o2,e2⟩:=th b o' e1 (UW b (Rn b o e) hb)
   exact⟨o2,hB _ _ e2⟩
 ·obtain⟨m1,e1⟩:=I.base.lq b ps e
  obtain⟨m2,e2⟩:=F.lq b _ e1
  exact⟨m1++m2,by rw [e2,acH]⟩
 ·obtain⟨m,hn,hl⟩:=I.loc
  have hm:X.env.locals∈g9 X.stack:=by rw [L3];exact aav
  have Jl:s'.heap.Ns X.env.locals m:=by
   obtain⟨o,es,ep,ho,r⟩:=hn
   obtain⟨sl,e⟩:=F.slot _ o ho I.free hm
   exact⟨_,es,ep,e,r⟩
  refine⟨m,sm.ns Jl,fun i y v e1 e2 e3=>?_⟩
  obtain⟨u,r,l⟩:=hl i y v e1 e2 e3
  refine⟨u,r,?_⟩
  rcases l with l|⟨k,c,e,z⟩
  ·exact .inl l
  ·exact .inr ⟨k,c,e,cellK y c _ e z⟩
 ·obtain⟨v,z⟩:=I.cell y c e
  exact⟨v,cellK y c v e z⟩
 ·obtain⟨m,⟨o,_,_,ho,_⟩,_⟩:=I.loc
  exact F.free _ o ho I.free
 ·obtain⟨v,o,ho,_⟩:=I.cell y c e
  exact F.free c o ho (I.gG y c e)
 ·have Wv:p∈X.pn++gH:=(aaq.mp hpm).elim (fun z=>aas _ z) (hp p)
  obtain⟨e,n,ne,nf,d⟩:=I.pin p Wv
  exact⟨hB _ _ (kp p.1 p.2 e n (UW p.1 ne nf)),F.free p.1 p.2 e n,ne,nf,d⟩
theorem Cx.Ok.cx {X:Cx} (ok:X.Ok) {A':abi} {cm:Bool} {pn:List (aaB × Obj)} {xe:aai→aan→Prop} (hf:A'.frames=X.A.frames) (hh:cm=true→A'.handled=none) :
  Cx.Ok { X with A:=A',calm:=cm,pn:=pn,xe:=xe } :=
 ⟨ok.mod,ok.kind,ok.glob,ok.blt,ok.above,ok.inj,ok.has,ok.OC,hh,hf.trans ok.frames,ok.QK,ok.VN,ok.bs,ok.Lj,ok.GL,ok.IA,ok.pG,ok.Nz⟩
theorem Inv.cx {X:Cx} {pins gH:List (aaB × Obj)} {σ:St} {H:Hp} {s:aan} (I:Inv X pins σ H s) {A':abi} {cm:Bool} {pn:List (aaB × Obj)} {xe:aai→aan→Prop} (hf:A'.frames=X.A.frames) (hh:cm=true→A'.handled=none)
  (hp:∀p∈pn++gH,p∈X.pn++pins):Inv { X with A:=A',calm:=cm,pn:=pn,xe:=xe } gH σ H s :=
 ⟨I.ok.cx hf hh,I.os,I.bare,I.base,I.loc,I.cell,I.free,I.gG,fun p q=>I.pin p (hp p q),I.hok,I.len⟩
abbrev O9 (X:Cx) (pn:List (aaB × Obj)):Cx:={ X with pn:=X.pn++pn }
abbrev pR (X:Cx) (pn:List (aaB × Obj)) (R:aai→St→Hp→Prop):Cx :=
 { X with pn:=X.pn++pn,xe:=fun e s'=>∃(gH:List (aaB × Obj)) (σ:St) (H:Hp) (s:aan) (H':Hp) (x:aaB) (cls:aai),Inv (O9 X pn) gH σ H s∧e=.ref x∧Wt X.prog X.w X.stack H s x cls H' s'∧R cls σ H' }
abbrev FW (X:Cx) (x:aaB):Cx:={ X with A:=X.A.mark (some (.ref x)),calm:=false,xe:=fun _ _=>False }
section
variable {X:Cx} {k:Nat} {f C:aaB} {fd:aa9} {ps:List Str} {sp:Sp} {oA:List V} {ds:List aai} {x:Str} {p pos:Pos} {e:Expr} {es:List Expr} {t:TA} {pn:List (aaB × Obj)} {R:aai→St→Hp→Prop}
def Jm (sp:Sp) (oA:List V) (R:aai→St→Hp→Prop) (t:TA):TE:=fun σ H Q=>t σ H fun vs H1=>sp (vs++oA) H1 Q fun cls _ H'=>R cls σ H'
theorem L4 {pins:List (aaB × Obj)} {σ:St} {H:Hp} {s:aan} {Q:VK} {us:List aai} {vs:List V} (F:a4 X.prog X.w X.K X.mg X.base (Ef X.prog X.w) k f fd ps sp) (hr:dR k X.A) (hb:Binds X.K fd ps ds) (hd:Vals oA ds)
  (I:Inv (pR X pn R) pins σ H s) (r:Vals vs us) (h:sp (vs++oA) H Q fun cls _ H'=>R cls σ H'):aa8 (model X.prog X.w) X.A (call (.ref f) us) (EP (pR X pn R) pins σ Q) (pR X pn R).xe s:=by
 have r2:Vals (vs++oA) (us++ds):=r.append hd
 have hl:(us++ds).length=ps.length:=by rw [← r2.length];exact F.len _ _ _ _ h
 refine wpAny_call (codeAny_mono (F.run X.A X.stack s H ⟨us,[]⟩ (us++ds) (vs++oA) Q _ hr I.OS (hb s us I.zG hl) r2 h) fun r s' hq=>?_)
 cases r with
 | error e =>
  obtain⟨x,cls,H',ee,F',hE⟩:=hq
  exact⟨pins,σ,H,s,H',x,cls,I.cx rfl I.ok.hd fun _ q=>q,ee,F',hE⟩
 | ok fl =>
  cases fl with
  | ret u=>exact I.after hq
  | next=>exact abH hq
  | brk=>exact abH hq
  | cont=>exact abH hq
theorem Jn (F:a4 X.prog X.w X.K X.mg X.base (Ef X.prog X.w) k f fd ps sp) (hr:dR k X.A) (hg:Gl X x) (hm:X.mg x=some (.ref f)) (hk:ab2 X.K (.ref f)=true) (hb:Binds X.K fd ps ds) (hd:Vals oA ds)
  (ha:PA (pR X pn R) (e::es) t) (xm:(x == ("__debug__":Str))=false:=by decide) (he:starEach (e::es) X.env=(false,eval e X.env)::starEach es X.env:=by rfl) (hpl:(backTo pos (starEach es X.env)).any (·.1)=false:=by rfl) :
  PE (pR X pn R) (.Call (.Name x p) (e::es) [] pos) (Jm sp oA R t):=by
 intro pins s σ H Q I h
 refine wpAny_Call_Name_kw (m3 I hg hm ?_ xm)
 refine acJ (h₀:=X.base) I.ok.mod.Ny hk (thn (ha pos pins s σ H _ I h) fun us s1 ⟨vs,H1,I1,r,q⟩=>⟨I1.zG,?_⟩) he hpl
 exact L4 F hr hb hd I1 r q
end
theorem dy.has {P:aaS} {w:abg} {H:Hp} {h:Heap} {a:aaB} {o:HO} (x:dy P w H h a o):∃u,h.get? a=some u:=by
 cases o with
 | lst xs=>obtain⟨_,_,_,_,e⟩:=x;exact⟨_,e⟩
 | tup xs=>obtain⟨_,_,_,o,e,_⟩:=x;exact⟨_,e⟩
 | dK kvs=>obtain⟨_,_,_,_,o,_,_,e,_⟩:=x;exact⟨_,e⟩
 | dT kvs=>obtain⟨_,_,_,_,o,_,_,e,_⟩:=x;exact⟨_,e⟩
 | set S n=>obtain⟨o,_,_,_,e,_⟩:=x;exact⟨_,e⟩
 | ins C dx fs=>obtain⟨_,_,_,e,_⟩:=x;exact⟨_,e⟩
 | own y=>obtain⟨_,e⟩:=x;exact⟨_,e⟩
 | xd fs=>obtain⟨_,⟨_,_,_,e,_⟩,_⟩:=x;exact⟨_,e⟩
 | UD lo hi=>obtain⟨_,_,_,e⟩:=x;exact⟨_,e⟩
 | xf ob u=>obtain⟨e,_⟩:=x;exact⟨_,e⟩
 | Li ps=>exact⟨_,(show h.get? a=some _ from x)⟩
 | met f y=>exact⟨_,(show h.get? a=some _ from x)⟩
 | ext φ=>obtain⟨_,⟨_,e⟩,_⟩:=x;exact⟨_,e⟩
structure Lit (X:Cx) (pins:List (aaB × Obj)) (σ:St) (H:Hp) (x:aaB) (cls:aai) (B:Heap) (a0:aai) (s:aan):Prop where
 fl:aeU B X.stack x cls a0 s.heap
 land:∀h',s.heap.UpToSlots h'→B.StaysIn h'→Inv X pins σ H { s with heap:=h' }
 fr:H x=none
def PH (X:Cx) (hs:List ExceptHandler) (th:aai→TS):Prop :=
 ∀(pins:List (aaB × Obj)) (s:aan) (σ:St) (H:Hp) (D:Ends) (x:aaB) (cls:aai) (B:Heap) (a0:aai),Lit X pins σ H x cls B a0 s→th cls D σ H→aa8 (model X.prog X.w) X.A (handleBy (.ref x) X.env hs) (SP X pins D) X.xe s
def tH0:aai→TS:=fun _ _ _ _=>False
theorem Pa {X:Cx}:PH X [] tH0:=fun _ _ _ _ _ _ _ _ _ _ h=>abH h
theorem SP.cx {X X':Cx} {pins gH:List (aaB × Obj)} {D:Ends} {f:Flow} {s:aan} (h:SP X pins D f s) (hI:∀σ H,Inv X pins σ H s→Inv X' gH σ H s):SP X' gH D f s:=by
 cases f with
 | next=>obtain⟨σ,H,I,q⟩:=h;exact⟨σ,H,hI _ _ I,q⟩
 | brk=>obtain⟨σ,H,I,q⟩:=h;exact⟨σ,H,hI _ _ I,q⟩
 | cont=>obtain⟨σ,H,I,q⟩:=h;exact⟨σ,H,hI _ _ I,q⟩
 | ret u=>obtain⟨v,σ,H,I,r,q⟩:=h;exact⟨v,σ,H,hI _ _ I,r,q⟩
def Ww (tb:(aai→St→Hp→Prop)→TS) (th:aai→TS):TS:=fun D σ H=>tb (fun cls σ' H'=>th cls D σ' H') D σ H
theorem Pb {X:Cx} {body:List Stmt} {h₀:ExceptHandler} {hs:List ExceptHandler} {pos:Pos} {tb:(aai→St→Hp→Prop)→TS} {th:aai→TS} (hb:∀pn R,Cf (pR X pn R) body (tb R)) (hh:PH X (h₀::hs) th)
  (zQ:X.stack=X.env::X.outer:=by rfl) (FU:X.env.frame=some X.env.locals:=by rfl) (hex:X.ex=[]:=by rfl) (GO:∀y,X.fn y=true:=by intro y;rfl):PS X (.Try body (h₀::hs) [] [] pos) (Ww tb th):=by
 intro pins s σ H D I h
 refine wpAny_Try_except (wpAny_mono (hb pins _ [] s σ H D (I.cx rfl I.ok.hd fun p q=>by rw [aaZ] at q;exact q) h) (fun fw s1 q=>?_) fun e s1 q=>?_)
 ·have q':SP X pins D fw s1:=SP.cx q fun σ' H' J=>J.cx (X:=pR X pins _) (A':=X.A) rfl I.ok.hd fun p z=>by rw [aaZ];exact z
  cases fw with
  | next=>exact wpAny_execs_nil q'
  | brk=>exact q'
  | cont=>exact q'
  | ret u=>exact q'
 ·obtain⟨gH,σ',H1,s0,H',x,cls,I',rfl,F,hR⟩:=q
  obtain⟨B,a0,fl,hok,kp,tr⟩:=F.ex
  refine wpAny_looks_onW (base:=B) (outer:=X.outer) (L:=X.env.locals) (cls:=cls) (a0:=a0) (by rw [I.ok.frames,zQ]) FU (by rw [← zQ];exact fl) fun h1 held Lo=>?_
  refine wpAny_landsW held fun h2 fl2 nM=>?_
  have hfr':H' x=none:=by
   cases e:H' x with
   | none=>rfl
   | some o =>
    obtain⟨u,hu⟩:=dy.has (hok x o e)
    rw [fl.2.1] at hu
    cases hu
  refine hh pins _ σ' H' D x cls B a0 ⟨by rw [zQ];exact fl2,fun h3 Pc OK=>?_,hfr'⟩ hR
  have J:Inv (O9 X pins) [] σ' H' { s1 with heap:=h3 }:=Inv.land (X:=O9 X pins) I' (fun p z=>nomatch z) hex GO ⟨zQ,FU⟩ F fl hok kp tr ((Lo.trans nM).trans Pc) OK
  exact J.cx rfl I.ok.hd fun p z=>by rw [aaZ];exact z
end L2
namespace L2
open PySem PySem.Spec PyProof.Rows
def dz (P:aaS) (w:abg) (K:aae) (mg:Str→Option aai) (base:Heap) (x:Str) (k:Nat) (ps:List Str) (sp:Sp):Prop :=
 ∃f fd,a4 P w K mg base dJ k f fd ps sp∧Binds K fd ps []∧ab2 K (.ref f)=true∧mg x=some (.ref f)
def L5 (P:aaS) (w:abg) (K:aae) (mg:Str→Option aai) (base:Heap) (x:Str) (C:aaB) (k:Nat) (ps:List Str) (sp:Sp):Prop :=
 ∃f fd,Mk K C f∧a4 P w K mg base dJ k f fd ps sp∧Binds K fd ps []∧mg x=some (.ref C)
def Met (P:aaS) (w:abg) (K:aae) (mg:Str→Option aai) (base:Heap) (C:aaB) (m:Str) (k:Nat) (ps:List Str) (sp:Sp):Prop :=
 ∃f fd,Ec K C∧Meth K C m f∧a4 P w K mg base dJ k f fd ps sp∧Binds K fd ps []
section
variable {X:Cx} {k:Nat} {C:aaB} {ps:List Str} {sp:Sp} {x m:Str} {p pos apos:Pos} {e o:Expr} {es:List Expr} {ta:TE} {t:TA}
theorem ao (c:dz X.prog X.w X.K X.mg X.base x k ps sp) (hr:dR k X.A) (hg:Gl X x) (ha:PA X (e::es) t) (xm:(x == ("__debug__":Str))=false:=by decide) (he:starEach (e::es) X.env=(false,eval e X.env)::starEach es X.env:=by rfl) (hpl:(backTo pos (starEach es X.env)).any (·.1)=false:=by rfl) :
  PE X (.Call (.Name x p) (e::es) [] pos) (IT sp [] E0 t):=by
 obtain⟨f,fd,F,b,kp,mg⟩:=c
 exact FH F hr hg mg kp b .nil Co ha xm he hpl
theorem pS (c:L5 X.prog X.w X.K X.mg X.base x C k ps sp) (hr:dR (k+1) X.A) (hg:Gl X x) (ha:PA X (e::es) t) (xm:(x == ("__debug__":Str))=false:=by decide) (he:starEach (e::es) X.env=(false,eval e X.env)::starEach es X.env:=by rfl) (hpl:(backTo pos (starEach es X.env)).any (·.1)=false:=by rfl) :
  PE X (.Call (.Name x p) (e::es) [] pos) (NI C sp [] E0 t):=by
 obtain⟨f,fd,M,F,b,mg⟩:=c
 exact LL M F hr hg mg b .nil Co ha xm he hpl
theorem R1 {pl:Sem Bool} (he:PE X o ta) (c:Met X.prog X.w X.K X.mg X.base C m k ps sp) (hr:dR k X.A) (ha:PA X (e::es) t)
  (zQ:starEach (e::es) X.env=(false,eval e X.env)::starEach es X.env:=by rfl) (hpl:(backTo pos (starEach es X.env)).any (·.1)=false:=by rfl)
  (ht:eval (.Call (.Attribute o m apos) (e::es) [] pos) X.env=(do
   let ov ← eval o X.env
   standAt apos.atName
   let (f,first) ← holding [ov] (getMethod ov m pl)
   callWith pos f first (backTo pos (starEach (e::es) X.env)) (backToKw pos (keywordEach [] X.env))):=by rfl) :
  PE X (.Call (.Attribute o m apos) (e::es) [] pos) (FF C m sp [] E0 ta t):=by
 obtain⟨f,fd,cl,M,F,b⟩:=c
 exact LK he cl M F hr b .nil Co ha zQ hpl ht
theorem G7 {pl:Sem Bool} (he:PE X o ta) (c:Met X.prog X.w X.K X.mg X.base C m k ps sp) (hr:dR k X.A)
  (ht:eval (.Call (.Attribute o m apos) [] [] pos) X.env=(do
   let ov ← eval o X.env
   standAt apos.atName
   let (f,first) ← holding [ov] (getMethod ov m pl)
   callWith pos f first (backTo pos (starEach [] X.env)) (backToKw pos (keywordEach [] X.env))):=by rfl) :
  PE X (.Call (.Attribute o m apos) [] [] pos) (FF C m sp [] E0 ta IS):=by
 obtain⟨f,fd,cl,M,F,b⟩:=c
 exact IU he cl M F hr b .nil Co ht
def Pd (X:Cx) (m:Str) (k:Nat) (ta:TE) (t:TA):TE:=fun σ H Q=>ta σ H fun x H1=>∃a C dx fs ps sp,x=.ref a∧H1 a=some (.ins C dx fs)∧fs.lookup m=none ∧
 Met X.prog X.w X.K X.mg X.base C m k ps sp∧t σ H1 fun vs H2=>sp (x::vs) H2 Q E0
theorem G8 {pl:Sem Bool} (he:PE X o ta) (hr:dR k X.A)
  (ht:eval (.Call (.Attribute o m apos) [] [] pos) X.env=(do
   let ov ← eval o X.env
   standAt apos.atName
   let (f,first) ← holding [ov] (getMethod ov m pl)
   callWith pos f first (backTo pos (starEach [] X.env)) (backToKw pos (keywordEach [] X.env))):=by rfl) :
  PE X (.Call (.Attribute o m apos) [] [] pos) (Pd X m k ta IS):=by
 intro pins s σ H Q I h
 refine acn (pl:=pl) (thn (he pins s σ H _ I h) fun u s1 ⟨x,H1,I1,rx,a,C,dx,fs,ps,sp,ex,ea,l,⟨f,fd,cl,M,F,b⟩,q⟩=>?_) ht
 subst ex
 obtain rfl:u=abh a:=rx
 refine jy I1 ea cl M l ?_
 exact aeq (first:=[.ref a]) I1.zG M.kp (zP (us:=[.ref a]) (vs:=[.ref a]) F hr b .nil Co I1 (.cons rfl .nil) q)
theorem dq {K:aae} {T C:aaB} {b:Bool} (hc:acq K C=true) (ht:acg K (.ref C)=some (.type "type")) (hs:PySem.W.mroIn K C (.ref C)=some true) (hm:PySem.W.mroIn K T (.ref C)=some b) :
  abM K (.ref T) (.ref C)=some b:=by
 unfold abM
 split
 ·rename_i h
  have e:abh T=abh C:=beq_iff_eq.mp h
  injection e with e
  subst e
  rw [hs] at hm
  exact hm
 ·unfold PySem.W.kitCls
  have hc':(PySem.W.clsIn K C).isSome=true:=hc
  simp only [hc',ht,beq_self_eq_true,Bool.and_self,if_true]
  exact hm
def Pe:V→List V→Hp→VK→Prop:=fun x vs H Q=>∃z,x=.str z∧vs=[]∧Q (.bl (aez z)) H
theorem u9:NK X "str.isupper" Pe:=by
 intro pins s σ H x xs v us Q I rx rs h
 obtain⟨z,rfl,rfl,q⟩:=h
 obtain⟨t,rfl⟩:=(show ∃t,v=abN z t from rx)
 cases rs
 exact SC.isupper ⟨.bl (aez z),H,I,rfl,q⟩
end
end L2
namespace L2
open PySem PySem.Spec PyProof.Rows
section
variable {X:Cx}
theorem yM:∀{l:List (Str × Tok)} {zs:List Str},l.map (·.1)=zs→Vals (zs.map V.str) (strValues l)
 | [],_,e=>by subst e;exact .nil
 | p::r,_,e=>by
  subst e
  exact .cons ⟨p.2,rfl⟩ (yM rfl)
def Pf:V→List V→Hp→VK→Prop:=fun x vs H Q=>∃z y,x=.str z∧vs=[.str y]∧(y.length == 0)=false∧z.length≤aaj∧(acM z y).length≤aaj∧∀l,H l=none→Q (.ref l) (upd H l (.lst ((acM z y).map V.str)))
open Builtin Builtin.Str in
theorem Jo {prog:aaS} {w:abg} {A:abi} {E:aai→aan→Prop} {s:aan} {x y:Str} {t u:Tok} {Q:aai→aan→Prop} (hy:(y.length == 0)=false) (hsz:x.length≤aaj) (hsz2:(acM x y).length≤aaj)
  (h:∀l k,l.map (·.1)=acM x y→Q (.ref s.heap.objs.size) { s with heap:=s.heap.push { cls:=.type "list",data:=.seq (strValues l).toArray },toks:=k }) :
  aa8 (model prog w) A (call (.builtin "str.split") [.str x t,.str y u]) Q E s:=by
 unfold acM at hsz2 h
 cases h1:(decide (x.length<y.length) || decide (strKind x<strKind y))
 ·rw [if_neg (ne_true_of_eq_false h1)] at hsz2 h
  cases hf:(occurrences x y 0 x.length (x.length+1)).isEmpty
  ·rw [if_neg (ne_true_of_eq_false hf)] at hsz2 h
   refine call_meets aci (typeIs_str _ _ _) acO (acD _ _) (meets_str_split_sep x y t u h1 hy hf hsz hsz2) ?_
   show wants Q E _ { s with toks:=_,heap:=s.heap.push { cls:=.type "list",data:=.seq (strsFrom s.toks (partsBetween x (occurrences x y 0 x.length (x.length+1)) y.length)).toArray } }
   rw [strsFrom_eq]
   exact h (numbered s.toks _) _ (numbered_texts _ _)
  ·rw [if_pos hf] at h
   exact call_meets aci (typeIs_str _ _ _) acO (acD _ _) (meets_str_split_not_found x y t u h1 hy hf) (h [(x,t)] s.toks rfl)
 ·rw [if_pos h1] at h
  exact call_meets aci (typeIs_str _ _ _) acO (acD _ _) (meets_str_split_cannot_occur x y t u h1) (h [(x,t)] s.toks rfl)
theorem Jp:NK X "str.split" Pf:=by
 intro pins s σ H x vs v us Q I rx rv h
 obtain⟨z,y,rfl,rfl,hy,h1,h2,q⟩:=h
 obtain⟨t,rfl⟩:=rx
 obtain⟨u,rfl,t',rfl⟩:=vals1 rv
 refine Jo hy h1 h2 fun l k e=>?_
 have hf:H s.heap.objs.size=none:=I.hok.fresh (aaz _)
 refine⟨.ref s.heap.objs.size,upd H s.heap.objs.size (.lst ((acM z y).map V.str)),I.laid (t':=k) (fun b u e=>aaE _ e) (aaz _) ?_,rfl,q _ hf⟩
 exact⟨by rw [Lm9];exact h2,strValues l,0,yM e,abe _ rfl⟩
def Pg:V→List V→Hp→VK→Prop:=fun x vs H Q=>∃z y,x=.str z∧vs=[.str y]∧z.length≤aaj∧Q (.str (aen z y)) H
theorem Jq:NK X "str.strip" Pg:=by
 intro pins s σ H x vs v us Q I rx rv h
 obtain⟨z,y,rfl,rfl,h1,q⟩:=h
 obtain⟨t,rfl⟩:=rx
 obtain⟨u,rfl,t',rfl⟩:=vals1 rv
 exact SC.stripChars (fun t2 k=>⟨.str _,H,I.tok _,⟨t2,rfl⟩,q⟩) h1
theorem xt:d8 X (.type "int") (fun xs H Q=>∃z n,xs=[.str z]∧PySem.intText? z=some n∧z.length≤640∧Q (.int n) H):=by
 intro pins s σ H xs us Q I r h
 obtain⟨z,n,rfl,hn,hl,q⟩:=h
 obtain⟨u,rfl,t,rfl⟩:=vals1 r
 exact PySem.W.KIN.call_text hn hl ⟨.int n,H,I.tok _,⟨_,rfl⟩,q⟩
end
end L2
namespace L2
open PySem PySem.Spec PyProof.Rows
theorem rQ {M:Model} {A:abi} {E:aai→aan→Prop} {s:aan} {β:Type} {n:Nat} (f:Nat→β→Sem (ForInStep β)) (I:Nat→β→aan→Prop) (Q:β→aan→Prop) {b:β}
  (turn:∀i b s',i<n→I i b s'→aa8 M A (f i b) (fun r IW=>match r with|.done b'=>Q b' IW|.yield b'=>I (i+1) b' IW) E s')
  (fin:∀b s',I n b s'→Q b s') (h:I 0 b s):aa8 M A (forIn [0:n] b f) Q E s:=by
 rw [Std.Legacy.Range.forIn_eq_forIn_range']
 have hsz:([0:n]:aeY).size=n:=by simp [Std.Legacy.Range.size]
 show aa8 M A (forIn (List.range' 0 ([0:n]:aeY).size 1) b f) Q E s
 rw [hsz]
 refine wpAny_forIn_list f (fun rest b s'=>∃i,i≤n∧rest=List.range' i (n - i) 1∧I i b s') Q ?_ ?_ _ _ ⟨0,abt _,by simp,h⟩
 ·rintro x rest b s' ⟨i,hi,er,hI⟩
  have t9:i<n:=by
   cases e:n - i with
   | zero=>rw [e] at er;cases er
   | succ m=>omega
  have e2:n - i=(n - (i+1))+1:=by omega
  rw [e2,List.range'_succ] at er
  injection er with e3 e4
  subst e3
  refine wpAny_mono (turn x b s' t9 hI) (fun r IW q=>?_) fun _ _ q=>q
  cases r with
  | done b'=>exact q
  | yield b'=>exact⟨x+1,t9,e4,q⟩
 ·rintro b s' ⟨i,hi,er,hI⟩
  have:i=n:=by
   cases e:n - i with
   | zero=>omega
   | succ m=>rw [e,List.range'_succ] at er;cases er
  subst this
  exact fin b s' hI
open SeqAt in
theorem xu (l:aaB) (items:Array aai) (n:Nat) (dd:Option aaB) (sl:Array (Option aai)) (x:aai) (e:aai→Bool) (j:Nat) (hj:j<items.size) (hit:e items[j]=true) (FL:∀m (hm:m<items.size),m<j→e items[m]=false) :
  Meets (Builtin.«tuple.index» ⟨[.ref l,x],[]⟩)
   (fun A R s=>s.heap.get? l=some { cls:=.type "tuple",dict:=dd,data:=.seq items n,slots:=sl }∧(∀y,y∈items→EqAt A.in1 s y x (e y))∧R (.ok (.ret (.int (j:Nat) s.toks))) { s with toks:=s.toks+1 }) :=
 .of_wp fun prog w A R s h=>by
  obtain⟨hp,g,d,tk,os⟩:=s;obtain⟨hl,he,h⟩:=h
  wp_walk using wpAny_loadPart' hl,rQ _ (fun i b s'=>b.1=none∧s'=⟨hp,g,d,tk,os⟩∧i≤j) _
  case turn =>
   rintro i b s' hi ⟨hb,rfl,hij⟩
   have hi':i<items.size:=by omega
   rw [Array.getElem?_eq_getElem hi']
   refine aaw (he items[i] (Array.getElem_mem hi') prog w _ _ ?_)
   by_cases hy:i=j
   ·subst hy
    rw [hit]
    wp_walk
    exact⟨_,rfl,h⟩
   ·rw [FL i hi' (by omega)]
    wp_walk
    exact⟨rfl,rfl,by omega⟩
  case fin =>
   rintro⟨b1,b2⟩ s' ⟨hb,rfl,hij⟩
   omega
  case h =>
   exact⟨rfl,rfl,abt _⟩
end L2
namespace L2
open PySem PySem.Spec PyProof.Rows
theorem L6 {tt:TT} {te:TE} {bu:List Nat} {σ:St} {H1:Hp} {Q:VK} {K:aae} {a:aaB} {xs:List V} {D:aaB} (hn:xs.length<aaj) (xr:H1 D=none) (hl:aL K H1 a xs) (kp:V→Bool) (f:V→V)
  (ht:∀x H' R,x∈xs→ai H1 H'→(∀ig,ai H' ig→R (kp x) ig)→tt (cV σ (some x) bu) H' R)
  (he:∀x H' R,x∈xs→kp x=true→ai H1 H'→(∀ig,ai H' ig→R (f x) ig)→te (cV σ (some x) bu) H' R)
  (hd:∀H',ai H1 H'→H' D=some (.lst ((xs.filter kp).map f))→Q (.ref D) H'):lE tt te bu σ Q (IJ K a) H1 D:=by
 refine i9 (K:=K) (a:=a) (xs:=xs) hn (fun i ys H'=>ai H1 H'∧H' D=some (.lst ys)∧ys=((xs.take i).filter kp).map f) ⟨fun b o e=>by rw [aH (aP e xr)];exact e,ae,rfl⟩
  (fun i ys H' p=>p.1.seq hl) (fun i ys H' p=>⟨p.2.1,?_⟩) (fun i ys H' hi p=>?_) (fun ys H' p=>?_)
 ·rw [p.2.2,Lm9]
  refine abj (abK _ _) ?_
  rw [aaA]
  omega
 ·have hx:xs.getD i .cB=xs[i]:=by rw [Gd9,Ge9 hi];rfl
  rw [hx]
  have hm:xs[i]∈xs:=aap hi
  have step:∀b,kp xs[i]=b→((xs.take (i+1)).filter kp).map f=((xs.take i).filter kp).map f++(if b=true then [f xs[i]] else []):=fun b hb=>by
   rw [aak hi,abp,aat]
   cases b with
   | true=>rw [if_pos rfl];simp [hb]
   | false=>rw [if_neg (by decide)];simp [hb]
  refine ht _ _ _ hm p.1 fun H2 s2=>?_
  cases hb:kp xs[i] with
  | true =>
   refine cL ?_
   refine he _ _ _ hm hb (ai.trans p.1 s2) fun H3 s3=>?_
   refine⟨s3 _ _ (s2 _ _ p.2.1),fun b o e=>?_,ae,?_⟩
   ·rw [aH (aP e xr)]
    exact s3 _ _ (s2 _ _ (p.1 _ _ e))
   ·rw [step true hb,if_pos rfl,p.2.2]
  | false =>
   refine bo ⟨ai.trans p.1 s2,s2 _ _ p.2.1,?_⟩
   rw [step false hb,if_neg (by decide),aaZ]
   exact p.2.2
 ·rw [p.2.2,aa1] at p
  exact hd H' p.1 p.2.1
end L2
namespace HT
open PySem PySem.Spec PyProof.Rows
section
variable {prog:aaS} {w:abg} {A:abi} {E:aai→aan→Prop} {s:aan}
theorem pT {t sl:aaB} {items:Array aai} {vl vu:aai} {lo hi:Option Int} {Q:aai→aan→Prop} (ht:IsTup s.heap t items) (hs:s.heap.IsSliceOf sl vl vu .none) (pl:IsPart vl lo) (pu:IsPart vu hi)
  (hw:dQ items.size 0 lo=0∧dQ items.size items.size hi=items.size) (h:Q (.ref t) s):aa8 (model prog w) A (getItem (.ref t) (.ref sl)) Q E s:=by
 obtain⟨os,LO,Ed,RK⟩:=id hs
 have LP:s.TypeIs (.ref sl) "slice":=⟨os,LO,Ed⟩
 unfold getItem
 try with_reducible refine wpAny_holding ?_
 first|refine aaw (aaX ?_)|skip
 refine aaw (wpAny_sequenceKey ht.typeIs (by decide) ?_)
 refine aaw (wpAny_callSpecial?_slot (name:=aaf "__getitem__") ht.typeIs abo
  (wpAny_call_entry abo ht.typeIs entry_tuple_getitem ?_ (args_tuple_getitem _ _)))
 show aa8 _ _ (adq (.ref t) >>= _) _ _ s
 refine aaw (tupleItemsOf_ ht ?_)
 refine aaw (wpAny_typeOf LP ?_)
 rw [if_pos (by decide)]
 refine aaw (i0 hs pl pu ?_)
 have Wx:(((dQ items.size 0 lo:Nat):Int) == 0 && (1:Int) == 1 && (dQ items.size items.size hi - dQ items.size 0 lo) == items.size)=true:=by
  rw [hw.1,hw.2]
  simp
 show aa8 _ _ (if (((dQ items.size 0 lo:Nat):Int) == 0 && (1:Int) == 1 && (dQ items.size items.size hi - dQ items.size 0 lo) == items.size)=true then _ else _) _ _ s
 rw [if_pos Wx]
 unfold Builtin.Tuple.tupleIsExact
 refine aaw (aaw (wpAny_typeOf ht.typeIs (aaX ?_)))
 rw [if_pos (by decide)]
 refine aaw (wpAny_rule ?_)
 first
  | exact aaX ⟨_,rfl,aaX h⟩
  | exact aaw (aaX (aaX ⟨_,rfl,aaX h⟩))
end
end HT
namespace L2
open PySem PySem.Spec PyProof.Rows
section
variable {X:Cx}
def Wy (K:aae):V→Option Int→Option Int→Hp→VK→Prop:=fun x lo hi H Q=>∃a xs,x=.ref a∧bT K H a xs∧∀p H',ai H H'→bT K H' p (fQ xs lo hi)→Q (.ref p) H'
theorem FX:RM X (Wy X.K):=by
 intro pins s σ H x v vl vu lo hi sl Q I rx hs pl pu h
 obtain⟨a,xs,rfl,hx,q⟩:=h
 by_cases hw:HT.dQ xs.length 0 lo=0∧HT.dQ xs.length xs.length hi=xs.length
 ·cases rx
  obtain⟨its,r,ht,hz⟩:=I.tuple hx
  have hlen:its.toArray.size=xs.length:=by rw [aaH];exact r.length.symm
  refine⟨"tuple",_,abo.lookup,ht.typeIs,?_⟩
  refine HT.pT ht hs pl pu (by rw [hlen];exact hw) ⟨.ref a,H,I,rfl,q a H (ai.refl H) ?_⟩
  unfold fQ
  rw [hw.1,hw.2,acY,aeV,aa1]
  exact hx
 ·exact OW pins s σ H (.ref a) v vl vu lo hi sl Q I rx hs pl pu ⟨a,xs,rfl,hx,hw,fun p hp=>q p _ (fun b o e=>by rw [aH (aP e hp)];exact e) (bT.of ae)⟩
theorem lG {xs:List V} {k:Nat} (h:k≤xs.length):fQ xs (some (k:Int)) none=xs.drop k:=by
 unfold fQ
 rw [HT.pK,HT.IX,acP h,abm]
 rw [aba]
 omega
end
end L2
namespace L2
open PySem PySem.Spec PyProof.Rows
theorem vb (l:aaB) (xs:Array aai) (n:Nat) (b:aaB) (ys:Array aai) (k:Nat) (dd:Option aaB) (sl:Array (Option aai)) (few:¬(!xs.isEmpty && abR (xs.size+ys.size))=true) (h1:xs.size≤aaj) (h2:xs.size+ys.size≤aaj+1) :
  Meets (Builtin.«list.extend» ⟨[.ref l,.ref b],[]⟩)
   (fun _ R st=>st.heap.get? l=some { cls:=.type "list",dict:=none,data:=.seq xs n,slots:=#[] }∧st.heap.get? b=some { cls:=.type "tuple",dict:=dd,data:=.seq ys k,slots:=sl } ∧
    R (.ok (.ret aeM)) { st with heap:=st.heap.update l (adI fun x=>x++ys),toks:=st.toks }) :=
 .of_wp fun prog w A R st h=>by
  obtain⟨hp,gs,dr,tk,os⟩:=st
  obtain⟨gl,gb,hR⟩:=h
  have i1:=AutoSeq1.idx_int
  have i2:=AutoSeq1.sub_tuple_tuple
  have i3:=AutoSeq1.sub_list_list
  have i4:=AutoSeq1.sub_tuple_list
  have i5:=AutoSeq1.sub_list_tuple
  have both:(xs++ys).size≤aaj+1:=by rw [Array.size_append];exact h2
  wp_walk using (wpAny_updateSeq gl rfl (hz:=h1) (_hz':=both)),adJ gl,adJ gb
  exact⟨_,rfl,hR⟩
section
variable {X:Cx}
def Jr (K:aae):V→List V→Hp→VK→Prop:=fun x vs H Q=>∃l b xs zs,x=.ref l∧vs=[.ref b]∧H l=some (.lst xs)∧bT K H b zs∧xs.length+zs.length≤aaj∧Q .cB (upd H l (.lst (xs++zs)))
theorem vc:NK X "list.extend" (Jr X.K):=by
 intro pins s σ H x vs v us Q I rx rv h
 obtain⟨l,b,xs,zs,rfl,rfl,hH,hB,hz,q⟩:=h
 cases (show v=abh l from rx)
 obtain⟨u,rfl,ru⟩:=vals1 rv
 cases (show u=abh b from ru)
 obtain⟨z,its,n,r,hl,e⟩:=I.G1 hH
 obtain⟨dS,r2,pl,z2⟩:=I.tuple hB
 obtain⟨⟨oc,od,dat,sl⟩,e2,hc,n2,hd⟩:=id pl
 simp only at hc hd
 subst hc hd
 have i8:=r2.length
 have hsz:its.toArray.size+dS.toArray.size≤aaj:=by rw [aaH,aaH];omega
 have Ja:¬ (!its.toArray.isEmpty && abR (its.toArray.size+dS.toArray.size))=true:=by
  rw [Cm hsz,Bool.and_false]
  exact aaJ
 refine call_meets abW ⟨_,e,rfl⟩ ad0 (adP _ _)
  (vb l its.toArray n b dS.toArray n2 od sl Ja (by rw [aaH];omega) (by omega)) ⟨e,e2,?_⟩
 refine⟨.cB,_,I.O0 (its':=its++dS) hH e (by simp) (r.append r2) ?_,rfl,q⟩
 rw [aag]
 omega
end
end L2
namespace L2
open PySem PySem.Spec PyProof.Rows
section
variable {X:Cx} {K:aae} {o e:Expr} {f:Str} {pos:Pos} {ta:TE}
theorem zW (hK:X.K=K) (he:PE X e ta) (hb:attributeBase e f X.env (eval e X.env)=eval e X.env):PE X (.Attribute e f pos) (tFld K ta f):=by
 subst hK
 exact pe_fld he hb
def rLenK (K:aae):List V→Hp→VK→Prop:=fun xs H Q=>∃p ys,xs=[.ref p]∧(aL K H p ys∨bT K H p ys)∧Q (.int ys.length) H
theorem vd (hK:X.K=K):d8 X (.builtin "len") (rLenK K):=by
 subst hK
 exact aB
end
end L2
namespace L2
open PySem PySem.Spec PyProof.Rows
section
variable {κ:Type} [DecidableEq κ]
def cb (kvs:List (κ × V)) (k:κ):Option V:=(kvs.find? fun kv=>decide (kv.1=k)).map (·.2)
def putK (kvs:List (κ × V)) (k:κ) (v:V):List (κ × V) :=
 if (kvs.any fun kv=>decide (kv.1=k))=true then kvs.map (fun kv=>if kv.1=k then (kv.1,v) else kv) else kvs++[(k,v)]
theorem pU {p:κ × V} {r:List (κ × V)} {k:κ} (e:p.1=k):cb (p::r) k=some p.2:=by simp [cb,abx,e]
theorem pV {p:κ × V} {r:List (κ × V)} {k:κ} (e:¬ p.1=k):cb (p::r) k=cb r k:=by simp [cb,abx,e]
theorem jc (k:κ):∀kvs:List (κ × V),(kvs.any fun kv=>decide (kv.1=k))=(cb kvs k).isSome
 | []=>rfl
 | p::r=>by
  rw [abU]
  by_cases e:p.1=k
  ·simp only [pU e,decide_eq_true e,Bool.true_or,Option.isSome_some]
  ·rw [pV e,decide_eq_false e,aeG];exact jc k r
theorem lH (kvs:List (κ × V)) (k:κ) (v:V):(putK kvs k v).length≤kvs.length+1:=by
 unfold putK
 split
 ·rw [Lm9];omega
 ·rw [aag,aar,abb];omega
theorem Ct {kvs:List (κ × V)} {k:κ} (v:V) (h:cb kvs k=none):putK kvs k v=kvs++[(k,v)]:=by
 unfold putK
 rw [jc,h]
 exact if_neg (by decide)
theorem kZ.rR {o:Option V} {u:Option aai} (r:kZ o u):o.isSome=u.isSome:=by
 cases o with
 | none=>cases u with
  | none=>rfl
  | some _=>exact(show False from r).elim
 | some _=>cases u with
  | none=>exact(show False from r).elim
  | some _=>rfl
theorem kZ.getD {o:Option V} {u:Option aai} {d:V} {d':aai} (r:kZ o u) (rd:RelV d d'):RelV (o.getD d) (u.getD d'):=by
 cases o with
 | none=>cases u with
  | none=>exact rd
  | some _=>exact(show False from r).elim
 | some _=>cases u with
  | none=>exact(show False from r).elim
  | some _=>exact r
theorem KV.val {kvs:List (κ × V)} {vs:List (κ × aai)} (r:KV kvs vs) (k:κ):kZ (cb kvs k) (valueAt vs k):=by
 unfold KV at r
 induction r with
 | nil=>exact adH
 | @cons p q ps qs h t ih =>
  obtain⟨h1,h2⟩:=h
  by_cases e:p.1=k
  ·have e':q.1=k:=h1.symm.trans e
   have b:valueAt (q::qs) k=some q.2:=by simp [valueAt,abx,e']
   rw [pU e,b];exact h2
  ·have e':¬ q.1=k:=fun z=>e (h1.trans z)
   have b:valueAt (q::qs) k=valueAt qs k:=by simp [valueAt,abx,e']
   rw [pV e,b];exact ih
theorem KV.any {kvs:List (κ × V)} {vs:List (κ × aai)} (r:KV kvs vs) (k:κ):(kvs.any fun kv=>decide (kv.1=k))=vs.any fun kv=>decide (kv.1=k):=by
 unfold KV at r
 induction r with
 | nil=>rfl
 | cons h t ih=>rw [abU,abU,ih,h.1]
theorem KV.Ph {kvs:List (κ × V)} {vs:List (κ × aai)} (r:KV kvs vs) (k:κ) {y:V} {u:aai} (ry:RelV y u) :
  KV (kvs.map fun kv=>if kv.1=k then (kv.1,y) else kv) (vs.map fun kv=>if kv.1=k then (kv.1,u) else kv):=by
 unfold KV at r ⊢
 induction r with
 | nil=>exact .nil
 | @cons p q ps qs h t ih =>
  rw [aa5,aa5]
  refine .cons ?_ ih
  obtain⟨h1,h2⟩:=h
  by_cases e:p.1=k
  ·rw [if_pos e,if_pos (h1.symm.trans e)];exact⟨h1,ry⟩
  ·rw [if_neg e,if_neg (fun z=>e (h1.trans z))];exact⟨h1,h2⟩
theorem KV.put {kvs:List (κ × V)} {vs:List (κ × aai)} (r:KV kvs vs) (k:κ) {y:V} {u:aai} (ry:RelV y u):KV (putK kvs k y) (stored vs k u):=by
 unfold putK stored
 rw [r.any k]
 by_cases e:(vs.any fun kv=>decide (kv.1=k))=true
 ·rw [if_pos e,if_pos e];exact r.Ph k ry
 ·rw [if_neg e,if_neg e];exact ae2 r ⟨rfl,ry⟩
theorem KV.keys {kvs:List (κ × V)} {vs:List (κ × aai)} (r:KV kvs vs):kvs.map (·.1)=vs.map (·.1):=by
 unfold KV at r
 induction r with
 | nil=>rfl
 | cons h t ih=>rw [aa5,aa5,ih,h.1]
theorem KV.length {kvs:List (κ × V)} {vs:List (κ × aai)} (r:KV kvs vs):kvs.length=vs.length:=aao r
end
theorem yN {P:aaS} {w:abg} {k:Key} {u:aai} (r:RelV (kV k) u):(bV P w).is k u=true:=by
 cases k with
 | inl i=>obtain⟨t,e⟩:=(show ∃t,u=ae0 i t from r);subst e;exact Cc P w i t
 | inr x=>obtain⟨t,e⟩:=(show ∃t,u=abN x t from r);subst e;exact Cd P w x t
theorem yO {P:aaS} {w:abg}:∀{ks:List Key} {us:List aai},Vals (ks.map kV) us→ItemsAre (bV P w) ks us
 | [],_,r=>by rw [abJ] at r;cases r;exact .nil
 | k::ks,_,r=>by
  rw [aa5] at r
  cases r with
  | cons h t=>exact .cons (yN h) (yO t)
abbrev KT (H:Hp):List (List Key × V)→List (List Key × aaB × aai)→Prop:=Paired fun p q=>p.1=q.1∧H q.2.1=some (.tup (p.1.map kV))∧RelV p.2 q.2.2
theorem KT.val {H:Hp} {kvs:List (List Key × V)} {xs:List (List Key × aaB × aai)} (r:KT H kvs xs) (k:List Key):kZ (cb kvs k) ((atKey xs k).map (·.2)):=by
 induction r with
 | nil=>exact adH
 | @cons p q ps qs h t ih =>
  obtain⟨h1,_,h2⟩:=h
  by_cases e:p.1=k
  ·have e':q.1=k:=h1.symm.trans e
   have b:atKey (q::qs) k=some q.2:=by simp [atKey,abx,e']
   rw [pU e,b];exact h2
  ·have e':¬ q.1=k:=fun z=>e (h1.trans z)
   have b:atKey (q::qs) k=atKey qs k:=by simp [atKey,abx,e']
   rw [pV e,b];exact ih
theorem KT.Ph {H:Hp} {kvs:List (List Key × V)} {xs:List (List Key × aaB × aai)} (r:KT H kvs xs) (k:List Key) {y:V} {u:aai} (ry:RelV y u) :
  KT H (kvs.map fun kv=>if kv.1=k then (kv.1,y) else kv) (xs.map (putAt k u)):=by
 induction r with
 | nil=>exact .nil
 | @cons p q ps qs h t ih =>
  rw [aa5,aa5]
  refine .cons ?_ ih
  obtain⟨h1,h2,h3⟩:=h
  unfold putAt
  by_cases e:p.1=k
  ·rw [if_pos e,if_pos (h1.symm.trans e)];exact⟨h1,h2,ry⟩
  ·rw [if_neg e,if_neg (fun z=>e (h1.trans z))];exact⟨h1,h2,h3⟩
theorem KT.put {H:Hp} {kvs:List (List Key × V)} {xs:List (List Key × aaB × aai)} (r:KT H kvs xs) (k:List Key) {b:aaB} {y:V} {u:aai} (hb:H b=some (.tup (k.map kV))) (ry:RelV y u) :
  KT H (putK kvs k y) (storedH xs k b u):=by
 have e:(kvs.any fun kv=>decide (kv.1=k))=(atKey xs k).isSome:=by
  rw [jc,(r.val k).rR,aeO]
 unfold putK storedH
 rw [e]
 by_cases q:(atKey xs k).isSome=true
 ·rw [if_pos q,if_pos q];exact r.Ph k ry
 ·rw [if_neg q,if_neg q];exact ae2 r ⟨rfl,hb,ry⟩
theorem KT.keeps {H H':Hp} {kvs:List (List Key × V)} {xs:List (List Key × aaB × aai)} (r:KT H kvs xs) (ht:∀b ys,H b=some (.tup ys)→H' b=some (.tup ys)):KT H' kvs xs :=
 Paired.d9 r fun _ _ z=>⟨z.1,ht _ _ z.2.1,z.2.2⟩
section
variable {P:aaS} {w:abg} {H:Hp} {h:Heap} {a:aaB}
theorem NL {u:HO} (ok:ly P w H h) (e:Rd H a u):dy P w H h a u:=e.ok ok
theorem yP {kvs:List (Key × V)} (ok:ly P w H h) (e:Rd H a (.dK kvs)):kvs.length≤aaj∧(a == sysModules)=false∧∃vs,KV kvs vs∧h.DictOf (bV P w) a vs :=
 show dy P w H h a (.dK kvs) from NL ok e
theorem NM {kvs:List (Key × V)} (ok:ly P w H h) (e:H a=some (.dK kvs)):kvs.length≤aaj∧(a == sysModules)=false∧∃vs,KV kvs vs∧h.DictOf (bV P w) a vs:=yP ok (.inl e)
theorem ve {ks:List Key} (ok:ly P w H h) (e:H a=some (.tup (ks.map kV))):(tupleKind (bV P w)).is h ks a:=by
 obtain⟨_,its,r,o,h1,h2,n,h3⟩:=(show dy P w H h a (.tup (ks.map kV)) from ok a _ e)
 exact⟨o,its.toArray,n,h1,h2,h3,by simpa using yO r⟩
theorem yQ {kvs:List (List Key × V)} (ok:ly P w H h) (e:Rd H a (.dT kvs)):kvs.length≤aaj∧(a == sysModules)=false ∧
  ∃xs,KT H kvs xs∧h.DictOfH (tupleKind (bV P w)) a xs:=by
 obtain⟨z,y,xs,r,o,es,ep,h1,h2,h3,h4,h5⟩:=(show dy P w H h a (.dT kvs) from NL ok e)
 refine⟨z,y,xs,r,o,es,ep,h1,h2,h3,h4,fun x hx=>?_,h5⟩
 have all:∀{l:List (List Key × V)} {m:List (List Key × aaB × aai)},KT H l m→∀x∈m,(tupleKind (bV P w)).is h x.1 x.2.1:=by
  intro l m q
  induction q with
  | nil=>intro x hx;exact nomatch hx
  | @cons p q ps qs hq t ih =>
   intro x hx
   rcases aaN.mp hx with e|hx
   ·subst e
    exact ve ok (by rw [← hq.1];exact hq.2.1)
   ·exact ih x hx
 exact all r x hx
theorem R4 {kvs:List (List Key × V)} (ok:ly P w H h) (e:H a=some (.dT kvs)):kvs.length≤aaj∧(a == sysModules)=false ∧
  ∃xs,KT H kvs xs∧h.DictOfH (tupleKind (bV P w)) a xs:=yQ ok (.inl e)
end
def jC (H:Hp) (a:aaB) (y:V) (r:Option V):Prop :=
 (∃kvs k,Rd H a (.dK kvs)∧y=kV k∧r=cb kvs k)∨∃kvs k b,Rd H a (.dT kvs)∧y=.ref b∧H b=some (.tup (k.map kV))∧r=cb kvs k
def G9 (H:Hp) (a:aaB) (y v:V) (H':Hp):Prop :=
 (∃kvs k,H a=some (.dK kvs)∧y=kV k∧kvs.length<aaj∧H'=upd H a (.dK (putK kvs k v))) ∨
 ∃kvs k b,H a=some (.dT kvs)∧y=.ref b∧H b=some (.tup (k.map kV))∧kvs.length<aaj∧H'=upd H a (.dT (putK kvs k v))
theorem jC.k {H:Hp} {a:aaB} {kvs:List (Key × V)} {k:Key} (e:H a=some (.dK kvs)):jC H a (kV k) (cb kvs k):=.inl ⟨kvs,k,.inl e,rfl,rfl⟩
theorem G9.k {H:Hp} {a:aaB} {kvs:List (Key × V)} {k:Key} {v:V} (e:H a=some (.dK kvs)) (hl:kvs.length<aaj):G9 H a (kV k) v (upd H a (.dK (putK kvs k v))):=.inl ⟨kvs,k,e,rfl,hl,rfl⟩
section
variable {X:Cx} {pins:List (aaB × Obj)} {σ:St} {H:Hp} {s:aan} {a:aaB} {y v:V} {u r:aai} {o:Option V} {A:abi} {E:aai→aan→Prop}
theorem Inv.big (I:Inv X pins σ H s):sysModules<s.heap.objs.size:=by
 have h:aaU<s.heap.objs.size:=(I.mod.glob.keeps I.bk).lt
 exact Nat.lt_trans (by decide) h
theorem Ha {Q:aai→aan→Prop} (hu:A.units+1<cLine) (I:Inv X pins σ H s) (g:jC H a y (some v)) (ry:RelV y u) (h:∀w' s',Inv X pins σ H s'→RelV v w'→Q w' s') :
  aa8 (model X.prog X.w) A (getItem (.ref a) u) Q E s:=by
 rcases g with⟨kvs,k,e,ey,l⟩|⟨kvs,k,b,e,ey,eb,l⟩
 ·subst ey
  obtain⟨z,hd,vs,rel,dd⟩:=yP I.hok e
  obtain⟨w',hw,Ey⟩:=kZ.some_of (v:=v) (o:=valueAt vs k) (by rw [l];exact rel.val k)
  exact wpAny_getItem_of (yN ry) dd.mapOf hw (h w' _ (I.tok _) Ey)
 ·subst ey
  cases (show u=abh b from ry)
  obtain⟨z,hd,xs,rel,dd⟩:=yQ I.hok e
  obtain⟨w',hw,Ey⟩:=kZ.some_of (v:=v) (o:=(atKey xs k).map (·.2)) (by rw [l];exact rel.val k)
  obtain⟨p,hp,EF⟩:=Option.map_eq_some_iff.mp hw
  refine wpAny_getItem_heap (tupleKind_room_in1 hu) (ve I.hok eb) dd hp ?_
  rw [EF]
  exact h w' _ (I.tok _) Ey
theorem L7 {Q:aai→aan→Prop} (hu:A.units+1<cLine) (I:Inv X pins σ H s) (g:jC H a y o) (ry:RelV y u) (h:∀s',Inv X pins σ H s'→Q (.bool (!o.isSome)) s') :
  aa8 (model X.prog X.w) A (compareOp .NotIn u (.ref a)) Q E s:=by
 rcases g with⟨kvs,k,e,ey,l⟩|⟨kvs,k,b,e,ey,eb,l⟩
 ·subst ey
  obtain⟨z,hd,vs,rel,dd⟩:=yP I.hok e
  refine wpAny_notIn_of (yN ry) hd dd.mapOf ?_
  rw [← (rel.val k).rR,← l]
  exact h _ (I.tok _)
 ·subst ey
  cases (show u=abh b from ry)
  obtain⟨z,hd,xs,rel,dd⟩:=yQ I.hok e
  refine wpAny_notIn_heap (tupleKind_room_in1 hu) (ve I.hok eb) hd dd ?_
  have q:=(rel.val k).rR
  rw [aeO] at q
  rw [← q,← l]
  exact h _ (I.tok _)
theorem FY {h':Heap} {t':Nat} {ob:HO} (I:Inv X pins σ H s) (mu:Rk (H a)) (hs:ad6 a s.heap h') (he:∃q,h'.get? a=some q) (new:dy X.prog X.w (upd H a ob) h' a ob) :
  Inv X pins σ (upd H a ob) { s with heap:=h',toks:=t' } :=
 I.write (x:=a) (e:=a) mu (.inl rfl) (fun b q hb z=>(hs.2 b hb).trans z) he new
theorem Pj {P:aaS} {w:abg} {H':Hp} {h':Heap} {kvs:List (Key × V)} {vs:List (Key × aai)} (z:kvs.length≤aaj) (hd:(a == sysModules)=false) (rel:KV kvs vs) (dd:h'.DictOf (bV P w) a vs) :
  dy P w H' h' a (.dK kvs):=⟨z,hd,vs,rel,dd⟩
theorem Hb {H':Hp} {Q:Unit→aan→Prop} (hu:A.units+1<cLine) (I:Inv X pins σ H s) (g:G9 H a y v H') (ry:RelV y u) (rv:RelV v r) (h:∀s',Inv X pins σ H' s'→Q () s') :
  aa8 (model X.prog X.w) A (setItem (.ref a) u r) Q E s:=by
 rcases g with⟨kvs,k,e,ey,l,eH⟩|⟨kvs,k,b,e,ey,eb,l,eH⟩
 ·subst ey eH
  obtain⟨z,hd,vs,rel,dd⟩:=NM I.hok e
  have hz:vs.length≤aaj:=by rw [← rel.length];exact z
  have hl:(putK kvs k v).length≤aaj:=by have:=lH kvs k v;omega
  refine wpAny_setItem_pairs (hsz:=hz) (yN ry) dd fun h' UX hs=>h _ ?_
  have he:∃q,h'.get? a=some q:=let ⟨q,_,_,hq,_⟩:=UX;⟨q,hq⟩
  exact FY I (by rw [e];exact adH) hs he (Pj hl hd (rel.put k rv) UX)
 ·subst ey eH
  cases (show u=abh b from ry)
  obtain⟨z,hd,xs,rel,dd⟩:=R4 I.hok e
  have hz:xs.length≤aaj:=by rw [← aao rel];exact z
  have hl:(putK kvs k v).length≤aaj:=by have:=lH kvs k v;omega
  refine wpAny_setItem_heap (hsz:=hz) (tupleKind_room_in1 hu) (ve I.hok eb) dd fun h' UX hs=>h _ ?_
  obtain⟨q,es,ep,hq,h2,h3,h4,_,h5⟩:=UX
  refine FY I (by rw [e];exact adH) hs ⟨q,hq⟩ ⟨hl,hd,_,(rel.put k eb rv).keeps fun c ys ec=>?_,q,es,ep,hq,h2,h3,h4,h5⟩
  rw [aH (Ce ec e (fun z=>nomatch z))]
  exact ec
end
section
variable {X:Cx} {pins:List (aaB × Obj)} {σ:St} {H:Hp} {s:aan} {a:aaB} {kvs:List (Key × V)} {k:Key} {u:aai} {A:abi} {E:aai→aan→Prop}
end
def R5 (i:Expr):Prop:=∀ov iv,subscripted i false ov iv=operate [ov,iv] (getItem ov iv)
theorem L8 {prog:aaS} {w:abg} {A:abi} {E:aai→aan→Prop} {s:aan} {env:Env} {value slice:Expr} {pos:Pos} {T id:String} {Q:aai→aan→Prop}
  (hl:typeLookup (.type T) "__getitem__"=pure (some (.builtin id))) (hs:R5 slice)
  (h:aa8 (model prog w) A (eval value env) (fun o s₁=>aa8 (model prog w) A (eval slice env) (fun i s₂=>s₂.TypeIs o T∧aa8 (model prog w) A (getItem o i) Q E s₂) E s₁) E s) :
  aa8 (model prog w) A (eval (.Subscript value slice pos) env) Q E s:=by
 refine Subscript_ (wpAny_mono h (fun o s₁ h₁=>wpAny_mono h₁ (fun i s₂ h₂=>?_) fun _ _ x=>x) fun _ _ x=>x)
 obtain⟨hT,h₂⟩:=h₂
 unfold subscriptTail
 refine aaw ?_
 rw [getitemInPython_of_ne hT.not_modules]
 refine aaw (wpAny_specialOf hT hl ?_)
 have fin:aa8 (model prog w) A (subscripted slice false o i) (fun r s₃=>aa8 (model prog w) A (letTemporaryGo value o r >>= fun _=>pure r) Q E s₃) E s₂:=by
  rw [hs o i]
  exact wpAny_operating (wpAny_mono h₂ (fun r s₃ h₃=>aaw (wpAny_letTemporaryGo (aaX h₃))) fun _ _ x=>x)
 first
  | exact aaX (aaw fin)
  | exact aaw (aaX (aaw fin))
  | exact aaw fin
theorem Cu {X:Cx} {pins:List (aaB × Obj)} {σ:St} {H:Hp} {s:aan} {a:aaB} {y:V} {o:Option V} (I:Inv X pins σ H s) (g:jC H a y o):s.TypeIs (.ref a) "dict":=by
 rcases g with⟨kvs,k,e,_,_⟩|⟨kvs,k,b,e,_,_,_⟩
 ·obtain⟨_,_,vs,_,dd⟩:=yP I.hok e
  exact dd.typeIs
 ·obtain⟨_,_,xs,_,dd⟩:=yQ I.hok e
  exact dd.typeIs
def R6 (td ty:TE):TE:=fun σ H Q=>td σ H fun x H1=>ty σ H1 fun y H2=>∃a v,x=.ref a∧jC H2 a y (some v)∧Q v H2
def L9 (ty td:TE):TE:=fun σ H Q=>ty σ H fun y H1=>td σ H1 fun x H2=>∃a o,x=.ref a∧jC H2 a y o∧Q (.bl (!o.isSome)) H2
def R7 (td ty tv:TE):TS:=fun D σ H=>tv σ H fun v H1=>td σ H1 fun x H2=>ty σ H2 fun y H3=>∃a H4,x=.ref a∧G9 H3 a y v H4∧D.nx σ H4
section
variable {X:Cx} {o i e value:Expr} {pos pos' RH:Pos} {td ty tv:TE}
theorem Ma (hu:X.A.units+1<cLine) (ho:PE X o td) (hi:PE X i ty) (hs:R5 i):PE X (.Subscript o i pos) (R6 td ty):=by
 intro pins s σ H Q I h
 refine L8 PySem.F.slot_dict_getitem.lookup hs (thn (ho pins s σ H _ I h) fun u s1 ⟨x,H1,I1,rx,q1⟩=>thn (hi pins s1 σ H1 _ I1 q1) fun iv s2 ⟨y,H2,I2,ry,a,v,ex,g,q2⟩=>?_)
 subst ex
 obtain rfl:u=abh a:=rx
 exact⟨Cu I2 g,Ha hu I2 g ry fun w' s3 I3 Ey=>⟨v,H2,I3,Ey,q2⟩⟩
theorem rS (hu:X.A.units+1<cLine) (hi:PE X i ty) (ho:PE X o td):PC X .NotIn i o (L9 ty td):=by
 intro pins s σ H Q I h
 refine thn (hi pins s σ H _ I h) fun iv s1 ⟨y,H1,I1,ry,q1⟩=>thn (ho pins s1 σ H1 _ I1 q1) fun u s2 ⟨x,H2,I2,rx,a,ov,ex,g,q2⟩=>?_
 subst ex
 obtain rfl:u=abh a:=rx
 exact L7 hu I2 g ry fun s3 I3=>⟨.bl (!ov.isSome),H2,I3,rfl,q2⟩
theorem FZ (hu:X.A.units+1<cLine) (ho:PE X o td) (hi:PE X i ty) (hv:PE X value tv) (hs:swapsWith value (some (.Subscript o i pos')) pos.line X.env=pure false) :
  PS X (.Assign [.Subscript o i pos'] value pos) (R7 td ty tv):=by
 intro pins s σ H D I h
 refine wpAny_Assign_Subscript (thn (hv pins s σ H _ I h) fun r s1 ⟨v,H1,I1,rv,q1⟩=>thn (ho pins s1 σ H1 _ I1 q1) fun u s2 ⟨x,H2,I2,rx,q2⟩=>thn (hi pins s2 σ H2 _ I2 q2) fun iv s3 ⟨y,H3,I3,ry,a,H4,ex,g,q3⟩=>?_) hs
 subst ex
 obtain rfl:u=abh a:=rx
 exact Hb hu I3 g ry rv fun s4 I4=>⟨σ,H4,I4,q3⟩
end
theorem Js {P:aaS} {w:abg} {H:Hp} (h:Heap) (hb:sysModules<h.objs.size):dy P w H (h.push { cls:=.type "dict",data:=.dict #[] }) h.objs.size (.dK []) :=
 ⟨abt _,beq_eq_false_iff_ne.mpr (ack (abd hb)),[],.nil,ae3 h⟩
def Pk:TE:=fun _ H Q=>∀p,H p=none→Q (.ref p) (upd H p (.dK []))
section
variable {X:Cx} {pos:Pos}
theorem Cv:PE X (.Dict [] [] pos) Pk:=fun pins s σ H Q I h =>
 wpAny_Dict_empty ⟨.ref s.heap.objs.size,_,I.laid (a:=s.heap.objs.size) (o:=.dK []) (t':=s.toks) (fun _ _ q=>aaE _ q) (aaz _) (Js s.heap I.big),rfl,h _ (I.hok.fresh (aaz _))⟩
end
def iB (kvs more:List (Key × V)):List (Key × V):=more.foldl (fun acc kv=>putK acc kv.1 kv.2) kvs
structure M2 (X:Cx) (o:Expr) (m:Str) (apos:Pos) (e f:Expr) (cpos:Pos):Prop where
 base:attributeBase o m X.env (eval o X.env)=eval o X.env
 few:((backTo cpos (starEach [e,f] X.env)).all (fun x=>!x.1) && (backToKw cpos (keywordEach [] X.env)).all (fun x=>x.1.isSome)
  && decide (([e,f]:List Expr).length+([]:List Keyword).length+(if ([]:List Keyword).isEmpty then 0 else 1)<30))=true
 line:(apos.endLine == cpos.line)=true
 trees:backTo cpos (starEach [e,f] X.env)=[(false,eval e X.env),(false,eval f X.env)]
def R8 (H:Hp) (a:aaB):Prop:=(∃kvs,Rd H a (.dK kvs))∨∃kvs,Rd H a (.dT kvs)
theorem Mb {X:Cx} {pins:List (aaB × Obj)} {σ:St} {H:Hp} {s:aan} {a:aaB} (I:Inv X pins σ H s) (d:R8 H a) :
  s.TypeIs (.ref a) "dict"∧(∀b,abh a=.ref b→∃ob,s.heap.get? b=some ob∧ob.dict=none)∧(a == sysModules)=false:=by
 rcases d with⟨kvs,e⟩|⟨kvs,e⟩
 ·obtain⟨_,hd,vs,_,dd⟩:=yP I.hok e
  refine⟨dd.typeIs,fun b q=>?_,hd⟩
  cases q
  obtain⟨ob,_,_,h1,h2,_⟩:=dd
  exact⟨ob,h1,h2.2.1⟩
 ·obtain⟨_,hd,xs,_,dd⟩:=yQ I.hok e
  refine⟨dd.typeIs,fun b q=>?_,hd⟩
  cases q
  obtain⟨ob,_,_,h1,h2,_⟩:=dd
  exact⟨ob,h1,h2.2.1⟩
section
variable {X:Cx} {pins:List (aaB × Obj)} {σ:St} {H:Hp} {s:aan} {a:aaB} {y d:V} {u r:aai} {o:Option V} {A:abi} {E:aai→aan→Prop}
theorem Pl {Q:aai→aan→Prop} (hu:A.units+1<cLine) (I:Inv X pins σ H s) (g:jC H a y o) (ry:RelV y u) (rd:RelV d r) (h:∀w' s',Inv X pins σ H s'→RelV (o.getD d) w'→Q w' s') :
  aa8 (model X.prog X.w) A (call (.builtin "dict.get") [.ref a,u,r]) Q E s:=by
 rcases g with⟨kvs,k,e,ey,l⟩|⟨kvs,k,b,e,ey,eb,l⟩
 ·subst ey
  obtain⟨z,hd,vs,rel,dd⟩:=yP I.hok e
  refine call_meetsIn ac1 dd.typeIs ad1 (adR _ _ _) (meets_dict_get_default (bV X.prog X.w) a (yN ry) hd r) ⟨_,dd.mapOf,h _ _ (I.tok _) ?_⟩
  rw [l]
  exact(rel.val k).getD rd
 ·subst ey
  cases (show u=abh b from ry)
  obtain⟨z,hd,xs,rel,dd⟩:=yQ I.hok e
  refine call_meetsIn ac1 dd.typeIs ad1 (adR _ _ _) (meetsH_dict_get_default (tupleKind (bV X.prog X.w)) a b hd r) ⟨tupleKind_room_in1 hu,k,xs,ve I.hok eb,dd,h _ _ (I.tok _) ?_⟩
  rw [l]
  exact(rel.val k).getD rd
end
def Pm (td ty tx:TE):TE:=fun σ H Q=>td σ H fun x H1=>∃a,x=.ref a∧R8 H1 a∧ty σ H1 fun y H2=>tx σ H2 fun z H3=>∃o,jC H3 a y o∧Q (o.getD z) H3
section
variable {X:Cx} {o e f:Expr} {apos cpos:Pos} {td ty tx:TE}
theorem lI (hu:X.A.units+1<cLine) (ho:PE X o td) (he:PE X e ty) (hf:PE X f tx) (m:M2 X o "get" apos e f cpos):PE X (.Call (.Attribute o "get" apos) [e,f] [] cpos) (Pm td ty tx):=by
 intro pins s σ H Q I h
 refine wpAny_Call_method m.base m.few m.line PySem.F.plainAttrs_dict ac1 PySem.F.type_dict_get (thn (ho pins s σ H _ I h) fun u s1 ⟨x,H1,I1,rx,a,ex,d,q1⟩=>?_)
 subst ex
 obtain rfl:u=abh a:=rx
 obtain⟨t1,t2,_⟩:=Mb I1 d
 refine⟨t1,t2,?_⟩
 rw [m.trees]
 refine acV rfl (ac6 (adx (thn (he pins s1 σ H1 _ I1 q1) fun iv s2 ⟨y,H2,I2,ry,q2⟩ =>
  adx (thn (hf pins s2 σ H2 _ I2 q2) fun fv s3 ⟨z,H3,I3,rz,ov,g,q3⟩=>Calls.spliced_nil ?_))))
 exact Pl hu I3 g ry rz fun w' s4 I4 Ey=>⟨_,H3,I4,Ey,q3⟩
end
section
variable {X:Cx} {pins:List (aaB × Obj)} {σ:St} {H:Hp} {s:aan} {a:aaB} {kvs:List (Key × V)} {A:abi} {E:aai→aan→Prop}
end
section
variable {X:Cx} {pins:List (aaB × Obj)} {σ:St} {H:Hp} {s:aan} {a:aaB} {y:V} {u:aai} {A:abi} {E:aai→aan→Prop}
end
end L2
namespace L2
open PySem PySem.Spec PyProof.Rows
section
variable {X:Cx}
end
section
variable {κ:Type} [DecidableEq κ]
theorem Mc {kvs:List (κ × V)} {k:κ} {v:V} (h:cb kvs k=some v):k∈kvs.map (·.1):=by
 have q:(kvs.any fun kv=>decide (kv.1=k))=true:=by
  rw [jc,h]
  all_goals rfl
 obtain⟨p,hp,e⟩:=abA.mp q
 exact aay.mpr ⟨p,hp,of_decide_eq_true e⟩
end
end L2
namespace L2
open PySem PySem.Spec PyProof.Rows
theorem Pn {prog:aaS} {w:abg} {A:abi} {E:aai→aan→Prop} {s:aan} {a:aaB} {o:Obj} {xs:Array aai} {k:Nat} {Q:Option aai→aan→Prop}
  (hx:s.heap.get? a=some o) (hc:o.cls=.type "list") (R9:o.data=.seq xs k) (hd:o.dict=none) (hA:A.handled=none)
  (h:∀h' tk e,Heap.NewExcOf s.heap h' e "AttributeError"→Q none { s with heap:=h',toks:=tk }) :
  aa8 (model prog w) A (getAttr? (.ref a) "keys") Q E s:=by
 obtain⟨c,dct,dat,sl⟩:=o
 simp only at hc R9 hd
 subst hc R9 hd
 obtain⟨hp,g,d,tk,os⟩:=s
 have hT:∀tk',(⟨hp,g,d,tk',os⟩:aan).TypeIs (.ref a) "list":=fun _=>⟨_,hx,rfl⟩
 have f1:=sub_AttributeError
 have f3:=acb.lookup
 have f4:=acb.bind (.ref a)
 have f5:=am_list_getattr_none
 have hmiss:typeLookup (.type "list") "keys"=pure none:=by rw [typeLookup_type,builtinLookup_eq_fast];kernel_rfl
 unfold getAttr? getAttrBy? getAttrBy
 repeat (any_goals (first|assumption|exact hT _|((with_reducible show aa8 _ _ (call (acQ "list.__getattribute__") _ _) _ _ _);refine call_meets acb (hT _) am_entry_list_getattribute (PySem.F.args_list_getattribute_2 _ _) (meets_getattribute_miss_list a xs k sl "keys" _ hmiss (by decide +kernel) (by decide)) ⟨hx,hA,fun h' tk' e hx'=>?_⟩)|wp_step))
 obtain⟨t',u',he⟩:=hx'.there
 show aa8 _ _ (getattributeRaised _ _ _ _ _ _ _) _ _ _
 unfold getattributeRaised
 repeat (any_goals (first|assumption|wp_step))
 exact h _ _ _ hx'.of
end L2
namespace L2
open PySem PySem.Spec PyProof.Rows
theorem entry_dul:entryFor table "dict.update.loop"=some Builtin.«dict.update.loop»:=entryFor_of_tree (by kernel_rfl)
theorem plain_dul:plainId "dict.update.loop"=true:=by decide +kernel
theorem paired_at {α β:Type} {F:α→β→Prop}:∀{l1:List α} {l2:List β},Paired F l1 l2→∀i (h1:i<l1.length) (h2:i<l2.length),F l1[i] l2[i]
 | _,_,.cons h _,0,_,_=>h
 | _,_,.cons _ t,i+1,h1,h2=>paired_at t i (by simpa using h1) (by simpa using h2)
theorem vf:∀(ps:List (Key × V)),(iB [] ps).length≤ps.length:=by
 have key:∀(ps acc:List (Key × V)),(iB acc ps).length≤acc.length+ps.length:=by
  intro ps
  induction ps with
  | nil=>intro acc;exact aaz _
  | cons p r ih =>
   intro acc
   have z:=ih (putK acc p.1 p.2)
   have z2:(putK acc p.1 p.2).length≤acc.length+1:=lH acc p.1 p.2
   show(iB (putK acc p.1 p.2) r).length≤_
   rw [aar]
   omega
 intro ps
 have z:=key ps []
 simpa using z
section
variable {X:Cx} {pins:List (aaB × Obj)} {σ:St} {H:Hp} {s:aan} {a it l:aaB} {ys:List V} {its:List aai} {ps:List (Key × V)}
def F0 (K:aae) (H:Hp) (ps:List (Key × V)) (ys:List V):Prop:=Paired (fun(p:Key × V) (y:V)=>∃t,y=.ref t∧bT K H t [kV p.1,p.2]) ps ys
theorem Md {A:abi} {R:Result→aan→Prop} (I:Inv X pins σ H s) (hh:A.handled=none) (hl:s.heap.IsList l its.toArray) (rv:Vals ys its) (hP:F0 X.K H ps ys) (hlen:ps.length≤100000)
  (ha:s.heap.objs.size≤a) (Wz:s.heap.objs.size≤it) (hne:a≠it)
  (fin:∀h' tk vs,(∀b o,s.heap.get? b=some o→h'.get? b=some o)→h'.DictOf (bV X.prog X.w) a vs→KV (iB [] ps) vs→R (.ok (.ret .none)) { s with heap:=h',toks:=tk }) :
  ∀(k i:Nat) (h':Heap) (tk:Nat) (vs:List (Key × aai)),its.length - i=k→i≤its.length→(∀b o,s.heap.get? b=some o→h'.get? b=some o)→h'.IsListIter it l i→h'.DictOf (bV X.prog X.w) a vs→KV (iB [] (ps.take i)) vs →
   aa8 (model X.prog X.w) A.in1 (Builtin.«dict.update.loop» ⟨[.ref a,.ref it,rawInt (i:Int),.none],[]⟩) (fun fin s'=>match fin with|.done f=>R (.ok f) s'|.again c'=>c'.quiet=true∧codeAny (model X.prog X.w) A c' R s') (fun e s'=>R (.error e) s') { s with heap:=h',toks:=tk }:=by
 have vh:=rv.length
 have i8:=aao hP
 have lt:∀b o,s.heap.get? b=some o→b≠a∧b≠it:=fun b o q=>by
  exact⟨abd (aaY (aaV q) ha),abd (aaY (aaV q) Wz)⟩
 obtain⟨ol,UY,rJ⟩:=id hl
 intro k
 induction k with
 | zero =>
  intro i h' tk vs hk hi kp hit hD hK
  obtain rfl:i=its.length:=by omega
  unfold Builtin.«dict.update.loop»
  dsimp only [rawInt]
  refine aaw (wpAny_pyNext_list_end (s:={ s with heap:=h',toks:=tk }) (A:=A.in1) hh hit (show h'.IsList l its.toArray from⟨ol,kp _ _ UY,rJ⟩) (by simp) fun h2 Sa=>?_)
  dsimp only
  have kO:h2.DictOf (bV X.prog X.w) a vs:=hD.extBut Sa hne
  show aa8 _ _ (Builtin.Dict.addKeywords a [] >>= _) _ _ _
  refine aaw (aaX (aaX ?_))
  exact fin h2 tk vs (fun b o q=>Sa b o (lt b o q).2 (kp b o q)) kO (by rw [← vh,← i8,aa1] at hK;exact hK)
 | succ k ih =>
  intro i h' tk vs hk hi kp hit hD hK
  have hi1:i<its.length:=by omega
  have hip:i<ps.length:=by omega
  unfold Builtin.«dict.update.loop»
  dsimp only [rawInt]
  refine aaw (wpAny_pyNext_list_item (s:={ s with heap:=h',toks:=tk }) (x:=its[i]) hit (show h'.IsList l its.toArray from⟨ol,kp _ _ UY,rJ⟩) (by simp [hi1]) fun h1 Sb US=>?_)
  dsimp only
  have QR:∀b o,s.heap.get? b=some o→h1.get? b=some o:=fun b o q=>(US.2 b (lt b o q).2).trans (kp b o q)
  have I1:Inv X pins σ H { s with heap:=h1,toks:=tk }:=I.kept QR
  have Po:h1.DictOf (bV X.prog X.w) a vs:=hD.sameBut US hne
  obtain⟨u1,f1,q1⟩:=rv.get (i:=i) (x:=ys[i]'(by omega)) (by simp)
  have eu:its[i]=u1:=(aau.mp f1).2
  obtain⟨t,et,hq⟩:∃t,ys[i]'(by omega)=.ref t∧bT X.K H t [kV (ps[i]).1,(ps[i]).2]:=by
   have z:=hP
   unfold F0 at z
   exact paired_at z i hip (by omega)
  rw [et] at q1
  have eu2:its[i]=.ref t:=by rw [eu];exact q1
  rw [eu2]
  obtain⟨itt,rt,pl,_⟩:=I1.tuple hq
  obtain⟨uk,uv,rfl,rk,rvv⟩:=vals2 rt
  obtain⟨ot,hot,hct,n,hdt⟩:=id pl
  have hTt:Shared.TypeIs { s with heap:=h1,toks:=tk } (.ref t) "tuple":=⟨ot,hot,hct⟩
  refine aaw (wpAny_holding (aaw ?_))
  have hpi:∀{E':aai→aan→Prop} {Q':List aai→aan→Prop},Q' [uk,uv] { s with heap:=h1,toks:=tk }→aa8 (model X.prog X.w) A.in1 (ad2 (.ref t)) Q' E' { s with heap:=h1,toks:=tk }:=fun {E' Q'} hq'=>by
   unfold ad2
   refine aaw (wpAny_typeOf hTt ?_)
   rw [if_pos (by decide)]
   refine aaw (wpAny_seqItems hot hdt (aaX ?_))
   exact hq'
  refine wpAny_tryCatch (hpi ?_)
  dsimp only
  have hsz:vs.length≤aaj:=by
   have z:=hK.length
   have z2:=vf (ps.take i)
   rw [aaA] at z2
   exact abj (show vs.length≤100000 by omega) (show 100000≤aaj by rw [aax];decide)
  refine wpAny_holding (wpAny_dictSet_pairs (hsz:=hsz) (yN rk) Po fun h2 kO Sd=>?_)
  have NO:∀b o,s.heap.get? b=some o→h2.get? b=some o:=fun b o q=>(Sd.2 b (lt b o q).1).trans (QR b o q)
  have WA:h2.IsListIter it l (i+1):=by
   obtain⟨o,ho,r⟩:=Sb
   exact⟨o,(Sd.2 it (ack hne)).trans ho,r⟩
  refine aaX ?_
  refine⟨plainId_quiet plain_dul _,codeAny_builtin entry_dul ?_⟩
  rw [aej plain_dul _]
  refine ih (i+1) h2 (tk+1) _ (by omega) (by omega) NO WA kO ?_
  rw [aak hip]
  unfold iB
  rw [acW]
  exact hK.put _ rvv
theorem ud (hc:X.calm=true):d8 X (.type "dict") (fun xs H Q=>∃(l:aaB) (ys:List V) (ps:List (Key × V)),xs=[.ref l]∧H l=some (.lst ys)∧F0 X.K H ps ys∧ps.length≤100000∧∀d,H d=none→Q (.ref d) (upd H d (.dK (iB [] ps)))):=by
 intro pins s σ H xs us Q I r h
 obtain⟨l,ys,ps,rfl,hl,hP,hlen,q⟩:=h
 obtain⟨u,rfl,ru⟩:=vals1 r
 cases (show u=abh l from ru)
 have hh:=I.ok.hd hc
 obtain⟨hz,its,n,rv,hg⟩:=(show dy X.prog X.w H s.heap l (.lst ys) from I.hok l _ hl)
 have hf:H s.heap.objs.size=none:=I.hok.fresh (aaz _)
 refine callType_codes (Q₁:=fun obj s₁=>obj=.ref s.heap.objs.size∧s₁={ s with heap:=s.heap.push { cls:=.type "dict",data:=.dict #[] } }) PySem.F.kt_called_dict (PySem.F.kt_typeCall_dict_1 _) PySem.F.entry_dict_init (kt_code_dict_new _ ⟨rfl,rfl⟩) ?_
 rintro obj s₁ ⟨rfl,rfl⟩
 have Jt:(s.heap.push { cls:=.type "dict",data:=.dict #[] }).DictOf (bV X.prog X.w) s.heap.objs.size []:=ae3 s.heap
 refine⟨Jt.typeIs,PySem.F.args_dict_init_2 _ _,?_⟩
 unfold Builtin.«dict.__init__»
 refine aaw ?_
 unfold Builtin.Dict.selfAndRest
 refine aaw (wpAny_notOrdered_dict Jt.typeIs ?_)
 show aa8 _ _ (pure (s.heap.objs.size,[abh l])) _ _ _
 refine aaX ?_
 show aa8 _ _ (adS "dict.__init__" s.heap.objs.size (.ref l) [] .none) _ _ _
 unfold adS
 have NP:(s.heap.push { cls:=.type "dict",data:=.dict #[] }).get? l=some { cls:=.type "list",data:=.seq its.toArray n }:=aaE _ hg
 refine aaw (wpAny_typeOf (T:="list") ⟨_,NP,rfl⟩ ?_)
 rw [if_pos (by decide)]
 refine aaw (Pn NP rfl rfl rfl hh fun h1 tk1 e hx=>?_)
 rw [if_pos (show(none:Option aai).isNone=true from rfl)]
 refine aaw (wpAny_rule ?_)
 have UZ:=hx.keeps _ _ NP
 have hd2:h1.DictOf (bV X.prog X.w) s.heap.objs.size []:=by
  obtain⟨o,es,ep,ho,r⟩:=Jt
  exact⟨o,es,ep,hx.keeps _ _ ho,r⟩
 have Se:s.heap.objs.size<h1.objs.size:=by
  obtain⟨o,es,ep,ho,r⟩:=hd2
  exact aaV ho
 have rT:h1.IsList l its.toArray:=⟨_,UZ,rfl,n,rfl⟩
 refine aaw (wpAny_pyIter_list (s:={ s with heap:=h1,toks:=tk1 }) rT ?_)
 refine aaX ⟨plainId_quiet plain_dul _,codeAny_builtin entry_dul ?_⟩
 rw [aej plain_dul _]
 have kp0:∀b o,s.heap.get? b=some o→(h1.push { cls:=.type "list_iterator",data:=.fields #[.ref l,.int 0 0] }).get? b=some o:=fun b o q=>aaE _ (hx.keeps _ _ (aaE _ q))
 refine Md (A:=X.A.in1) (its:=its) (a:=s.heap.objs.size) (it:=h1.objs.size) I hh ⟨_,hg,rfl,n,rfl⟩ rv hP hlen (aaz _) (ad5 Se) (abd Se) (fun h' tk vs kp hD hK=>?_)
  its.length 0 (h1.push { cls:=.type "list_iterator",data:=.fields #[.ref l,.int 0 0] }) tk1 [] (by omega) (abt _) kp0 ⟨_,abe _ rfl,rfl,rfl⟩ (hd2.push _) .nil
 refine⟨rfl,.ref s.heap.objs.size,upd H s.heap.objs.size (.dK (iB [] ps)),I.laid (t':=tk) kp (aaz _) ?_,rfl,q _ hf⟩
 refine⟨abj (vf ps) (abj hlen (by rw [aax];decide)),?_,vs,hK,hD⟩
 exact beq_eq_false_iff_ne.mpr (Nat.ne_of_gt I.big)
end
end L2
namespace L2
open PySem PySem.Spec PyProof.Rows
section
variable {X:Cx}
theorem Sf {P:aaS} {w:abg} {k:Key} {u:aai} (r:(bV P w).is k u=true):RelV (kV k) u:=by
 rcases cQ (k:=k) (v:=u) r with⟨i,t,rfl,rfl⟩|⟨x,t,rfl,rfl⟩
 ·exact⟨t,rfl⟩
 ·exact⟨t,rfl⟩
theorem F3:∀{xs:List V} {us:List aai},us.length=xs.length→(∀(j:Nat) (v:aai),us[j]?=some v→∃x,xs[j]?=some x∧RelV x v)→Vals xs us
 | [],[],_,_=>.nil
 | x::xs,u::us,hl,h=>by
  obtain⟨y,e,r⟩:=h 0 u rfl
  cases e
  exact .cons r (F3 (by simpa using hl) fun j v e=>h (j+1) v (by simpa using e))
theorem vi (hc:X.calm=true):d8 X (.type "list") (fun xs H Q=>∃(d:aaB) (kvs:List (Key × V)),xs=[.ref d]∧H d=some (.dK kvs)∧∀l,H l=none→Q (.ref l) (upd H l (.lst (kvs.map fun p=>kV p.1)))):=by
 intro pins s σ H xs us Q I r h
 obtain⟨d,kvs,rfl,hd,q⟩:=h
 obtain⟨u,rfl,ru⟩:=vals1 r
 cases (show u=abh d from ru)
 obtain⟨hz,lo,vs,hK,hD⟩:=NM I.hok hd
 obtain⟨o,es,ep,ho,rr⟩:=hD
 have hf:H s.heap.objs.size=none:=I.hok.fresh (aaz _)
 have hl:=hK.length
 refine PySem.W.kdl_call (PySem.W.kdl_dict (knd:=bV X.prog X.w) (kvs:=vs) (ep:=ep) lo) (I.ok.hd hc) ⟨o,es,ho,rr⟩ (by omega) fun h' tk acc c' kp hg Ju=>?_
 refine⟨.ref s.heap.objs.size,upd H s.heap.objs.size (.lst (kvs.map fun p=>kV p.1)),I.laid (t':=tk) kp (aaz _) ?_,rfl,q _ hf⟩
 refine⟨by rw [Lm9];exact hz,acc.toList,c',F3 ?_ fun j v e=>?_,by simpa using hg⟩
 ·rw [Lm9,acz,Ju.1,hl]
 ·obtain⟨k,x,e1,e2⟩:=Ju.2 j v (by rw [← Array.getElem?_toList];exact e)
  have ek:(kvs.map (·.1))[j]?=some k:=by
   rw [hK.keys,aa6,e1]
   rfl
  rw [aa6] at ek
  cases e3:kvs[j]? with
  | none=>rw [e3] at ek;cases ek
  | some p =>
   rw [e3] at ek
   have e4:p.1=k:=aa7 ek
   exact⟨kV p.1,by rw [aa6,e3];rfl,by rw [e4];exact Sf e2⟩
def Me (K:aae):V→List V→Hp→VK→Prop:=fun x vs H Q=>∃(p:aaB) (xs:List V) (y:V) (j:Nat),x=.ref p∧vs=[y]∧bT K H p xs∧i6 y=true∧xs.all i6=true∧(∃z,xs[j]?=some z∧Ip z y=true)∧(∀m z,m<j→xs[m]?=some z→Ip z y=false)∧Q (.int j) H
theorem Jv:NK X "tuple.index" (Me X.K):=by
 intro pins s σ H x vs v us Q I rx rv h
 obtain⟨p,xs,y,j,rfl,rfl,hq,fy,fx,⟨z,ez,hz⟩,FL,q⟩:=h
 cases (show v=abh p from rx)
 obtain⟨u,rfl,ru⟩:=vals1 rv
 obtain⟨its,r,pl,_⟩:=I.tuple hq
 obtain⟨⟨oc,od,dat,sl⟩,ho,hc,n,hd⟩:=id pl
 simp only at hc hd
 subst hc hd
 have hl:=r.length
 have hj:j<its.toArray.size:=by
  have:=(aau.mp ez).1
  simp
  omega
 have at_:∀m z,xs[m]?=some z→∃w,its[m]?=some w∧RelV z w:=fun m z e=>r.get e
 have flat:∀z∈xs,i6 z=true:=aa4.mp fx
 refine call_meets adK pl.typeIs PySem.F.entry_tuple_index (PySem.F.args_tuple_index_2 _ _) (xu p its.toArray n od sl u (Ee y) j hj ?_ ?_) ⟨ho,fun w hw=>i7 ru fy r fx w (by simpa using hw),⟨.int j,H,I.tok _,⟨_,rfl⟩,q⟩⟩
 ·obtain⟨w,ew,Ey⟩:=at_ j z ez
  have e:its.toArray[j]=w:=by
   have:=(aau.mp ew).2
   simpa using this
  rw [e,zT Ey (flat z (abB ez))]
  exact hz
 ·intro m hm hmj
  have hm':m<xs.length:=by simp at hm;omega
  obtain⟨w,ew,Ey⟩:=at_ m xs[m] (Ge9 hm')
  have e:its.toArray[m]=w:=by
   have:=(aau.mp ew).2
   simpa using this
  rw [e,zT Ey (flat _ (aap hm'))]
  exact FL m _ hmj (Ge9 hm')
end
end L2
namespace cR
open PySem
abbrev ef:Str:="abcdefghijklmnopqrstuvwxyz"
abbrev eX:Str:="ABCDEFGHIJKLMNOPQRSTUVWXYZ"
abbrev Hc:Str:="0123456789"
def bp (c:Nat):Bool:=decide (c∈ef.cps.toList) || (decide (c∈eX.cps.toList) || decide (c∈Hc.cps.toList))
def Jw (c:Nat):Bool:=c == 40 || (c == 41 || c == 44)
def shut (cur:List Nat) (r:List (List Nat)):List (List Nat):=if cur=[] then r else cur::r
def b7:List Nat→List Nat→List (List Nat)
 | [],cur=>shut cur []
 | c::r,cur=>if bp c=true then b7 r (cur++[c]) else shut cur (if c=32 then b7 r [] else [c]::b7 r [])
def toks (l:List Nat):List (List Nat):=b7 l []
theorem vj:∀(n r cur:List Nat),n.all bp=true→b7 (n++r) cur=b7 r (cur++n)
 | [],r,cur,_=>by simp
 | c::n,r,cur,h=>by
  rw [abl,aaW] at h
  rw [acy]
  show(if bp c=true then b7 (n++r) (cur++[c]) else _)=_
  rw [if_pos h.1,vj n r _ h.2,aaT]
  rfl
def nN:List Nat→Prop
 | []=>True
 | c::_=>bp c=false
theorem EG {r cur:List Nat} (hs:nN r) (hc:cur≠[]):b7 r cur=cur::toks r:=by
 cases r with
 | nil =>
  show shut cur []=cur::shut [] []
  unfold shut
  rw [if_neg hc,if_pos rfl]
 | cons c r =>
  have hs':bp c=false:=hs
  show(if bp c=true then _ else shut cur _)=cur::(if bp c=true then _ else shut [] _)
  rw [hs',if_neg aaJ,if_neg aaJ]
  unfold shut
  rw [if_neg hc,if_pos rfl]
theorem d5 {n r:List Nat} (hn:n.all bp=true) (h0:n≠[]) (hs:nN r):toks (n++r)=n::toks r:=by
 unfold toks
 rw [vj n r [] hn,abD,EG hs h0]
 rfl
theorem pW:bp 32=false:=by decide +kernel
theorem F4:bp 40=false:=by decide +kernel
theorem F5:bp 41=false:=by decide +kernel
theorem vm:bp 44=false:=by decide +kernel
theorem eL (r:List Nat):toks (32::r)=toks r:=by
 show(if bp 32=true then b7 r ([]++[32]) else shut [] (if (32:Nat)=32 then b7 r [] else [32]::b7 r []))=b7 r []
 rw [pW,if_neg aaJ,if_pos rfl]
 rfl
theorem m4 {c:Nat} (hc:Jw c=true) (r:List Nat):toks (c::r)=[c]::toks r:=by
 have e:c=40∨c=41∨c=44:=by
  unfold Jw at hc
  simpa using hc
 have ha:bp c=false:=by
  rcases e with e|e|e <;> rw [e]
  ·exact F4
  ·exact F5
  ·exact vm
 have hb:c≠32:=by omega
 show(if bp c=true then _ else shut [] (if c=32 then b7 r [] else [c]::b7 r []))=_
 rw [ha,if_neg aaJ,if_neg hb]
 rfl
theorem fR:∀(k:Nat) (r:List Nat),toks (abL k 32++r)=toks r
 | 0,r=>rfl
 | k+1,r=>by
  rw [aeA,acy,eL,fR k r]
theorem zX (k:Nat) {r:List Nat} (h:nN r):nN (abL k 32++r):=by
 cases k with
 | zero=>exact h
 | succ k=>exact pW
def bQ (l:List Nat):Nat:=(l.takeWhile bp).length
theorem vo {l:List Nat} (h:bQ l≠0):toks l=l.take (bQ l)::toks (l.drop (bQ l)):=by
 have e:l=l.takeWhile bp++l.dropWhile bp:=(List.takeWhile_append_dropWhile).symm
 have et:l.take (bQ l)=l.takeWhile bp:=by
  unfold bQ
  conv=>lhs;arg 2;rw [e]
  rw [List.take_left']
  rfl
 have ed:l.drop (bQ l)=l.dropWhile bp:=by
  unfold bQ
  conv=>lhs;arg 2;rw [e]
  rw [List.drop_left']
  rfl
 rw [et,ed]
 conv=>lhs;rw [e]
 refine d5 ?_ ?_ ?_
 ·exact List.all_takeWhile
 ·intro z
  unfold bQ at h
  rw [z] at h
  exact h rfl
 ·cases q:l.dropWhile bp with
  | nil=>trivial
  | cons c r =>
   have z:=List.head_dropWhile_not (p:=bp) (l:=l) (by rw [q];simp)
   simp only [q,List.head_cons] at z
   exact z
theorem zY {c:Nat} {r:List Nat} (h:bQ (c::r)=0):bp c=false:=by
 unfold bQ at h
 rw [adi] at h
 cases q:bp c with
 | false=>rfl
 | true=>rw [q] at h;simp at h
def aD (p:List Nat):Bool:=decide (1≤p.length) && (decide (p.length≤12) && p.all bp)
def gj:List (List Nat)→Option (List (List Nat) × Nat)
 | n::m::r=>if aD n=true then (if m=[41] then some ([n],2) else if m=[44] then (gj r).map fun q=>(n::q.1,q.2+2) else none) else none
 | _=>none
def between:List (List Nat)→List (List Nat)
 | []=>[]
 | [a]=>[a,[41]]
 | a::r=>a::[44]::between r
theorem nO:∀(as:List (List Nat)),as≠[]→(∀a∈as,aD a=true)→gj (between as)=some (as,(between as).length)
 | [],h,_=>absurd rfl h
 | [a],_,hn=>by
  show(if aD a=true then (if ([41]:List Nat)=[41] then some ([a],2) else _) else none)=_
  rw [if_pos (hn a (by simp)),if_pos rfl]
  rfl
 | a::b::r,_,hn=>by
  have ih:=nO (b::r) (by simp) fun x hx=>hn x (aam _ hx)
  show(if aD a=true then (if ([44]:List Nat)=[41] then _ else if ([44]:List Nat)=[44] then (gj (between (b::r))).map (fun q=>(a::q.1,q.2+2)) else none) else none)=_
  rw [if_pos (hn a (by simp)),if_neg (by decide),if_pos rfl,ih]
  rfl
end cR
namespace Bk
open PySem L2 cR
abbrev Cs:=List Nat
abbrev S (p:Cs):Str:=⟨p.toArray⟩
abbrev tx (p:Cs):V:=.str (S p)
theorem bH (p:Cs):(S p).cps.toList=p:=by simp
theorem vp (x:Str):S x.cps.toList=x:=by cases x;simp
theorem aS (p:Cs):(S p).length=p.length:=by simp [Str.length]
theorem lJ (x:Str):x.cps.toList.length=x.length:=by simp [Str.length]
theorem sY {a b:Cs} (h:S a=S b):a=b:=by
 have e:=congrArg (fun s:Str=>s.cps.toList) h
 simpa using e
theorem Jy {a b:Cs} (h:tx a=tx b):a=b:=by
 have z:S a=S b:=by injection h
 exact sY z
theorem zZ (a b:Cs):decide (tx a=tx b)=decide (a=b):=by
 rw [decide_eq_decide]
 exact⟨Jy,fun e=>by rw [e]⟩
structure Fc where
 k:Cs
 as:List Cs
structure Kd where
 n:Cs
 c:Nat
 l:Bool
structure Lk where
 same:Bool
 l:Cs
 r:Cs
structure Rl where
 title:Cs
 take:List Fc
 keep:List Fc
 aO:List Lk
 put:List Fc
 tell:List (Cs × Cs)
structure Kp (H0 H H':Hp):Prop where
 new:∀b o,H0 b=none→H b=some o→H' b=some o
 tup:∀b xs,H b=some (.tup xs)→H' b=some (.tup xs)
 xf:∀b o u,H b=some (.xf o u)→H' b=some (.xf o u)
 vq:∀b,H' b=none→H b=none
theorem Kp.trans {H0 H H1 H2:Hp} (a:Kp H0 H H1) (b:Kp H0 H1 H2):Kp H0 H H2 :=
 ⟨fun c o n h=>b.new c o n (a.new c o n h),fun c xs h=>b.tup c xs (a.tup c xs h),fun c o u h=>b.xf c o u (a.xf c o u h),fun c h=>a.vq c (b.vq c h)⟩
theorem Kp.same {H0 H H':Hp} (s:ai H H'):Kp H0 H H':=⟨fun b o _ h=>s b o h,fun b xs h=>s b _ h,fun b o u h=>s b _ h,fun b h=>by
 cases e:H b with
 | none=>rfl
 | some o=>rw [s b o e] at h;cases h⟩
theorem Kp.upd {H0 H:Hp} {l:aaB} {o o' u0:HO} (h0:H0 l=some u0) (h:H l=some o) (nt:∀xs,o≠.tup xs) (nf:∀ob u,o≠.xf ob u):Kp H0 H (upd H l o'):=by
 refine⟨fun b u n e=>?_,fun b xs e=>?_,fun b ob u e=>?_,fun b e=>?_⟩
 ·rw [aH (fun z=>by rw [z,h0] at n;cases n)];exact e
 ·rw [aH (fun z=>by rw [z,h] at e;exact nt xs (aa7 e))];exact e
 ·rw [aH (fun z=>by rw [z,h] at e;exact nf ob u (aa7 e))];exact e
 ·by_cases z:b=l
  ·rw [z,ae] at e;cases e
  ·rw [aH z] at e;exact e
theorem Kp.cG {H0 H1 H H':Hp} (k:Kp H0 H H') (d:∀b,H1 b=none→H0 b=none):Kp H1 H H':=⟨fun b o n h=>k.new b o (d b n) h,k.tup,k.xf,k.vq⟩
theorem bT.keep {K:aae} {H0 H H':Hp} (k:Kp H0 H H') {a:aaB} {xs:List V} (h:bT K H a xs):bT K H' a xs:=by
 rcases h with(h|⟨o,h⟩)|h
 ·exact .inl (.inl (k.tup _ _ h))
 ·exact .inl (.inr ⟨o,k.xf _ _ _ h⟩)
 ·exact .inr h
def Fact (K:aae) (H:Hp) (f:Fc) (v:V):Prop:=∃t t2,v=.ref t∧bT K H t [tx f.k,.ref t2]∧bT K H t2 (f.as.map tx)
def Kind (K:aae) (H:Hp) (k:Kd) (v:V):Prop:=∃t,v=.ref t∧bT K H t [tx k.n,.int k.c,.bl k.l]
def Pair (K:aae) (H:Hp) (p:Cs × Cs) (v:V):Prop:=∃t,v=.ref t∧bT K H t [tx p.1,tx p.2]
theorem Fact.keep {K:aae} {H0 H H':Hp} {f:Fc} {v:V} (k:Kp H0 H H') (h:Fact K H f v):Fact K H' f v:=by
 obtain⟨t,t2,e,h1,h2⟩:=h
 exact⟨t,t2,e,bT.keep k h1,bT.keep k h2⟩
theorem Kind.keep {K:aae} {H0 H H':Hp} {f:Kd} {v:V} (k:Kp H0 H H') (h:Kind K H f v):Kind K H' f v:=by
 obtain⟨t,e,h1⟩:=h
 exact⟨t,e,bT.keep k h1⟩
theorem Pair.keep {K:aae} {H0 H H':Hp} {p:Cs × Cs} {v:V} (k:Kp H0 H H') (h:Pair K H p v):Pair K H' p v:=by
 obtain⟨t,e,h1⟩:=h
 exact⟨t,e,bT.keep k h1⟩
def xh (α:Type) (R:Hp→α→V→Prop) (H0 H:Hp) (v:V) (xs:List α):Prop:=∃l vs,v=.ref l∧H0 l=none∧H l=some (.lst vs)∧Paired (R H) xs vs
theorem xh.keep {α:Type} {R:Hp→α→V→Prop} {H0 H H':Hp} {v:V} {xs:List α} (k:Kp H0 H H') (hR:∀a u,R H a u→R H' a u) (h:xh α R H0 H v xs):xh α R H0 H' v xs:=by
 obtain⟨l,vs,e,n,h1,h2⟩:=h
 exact⟨l,vs,e,n,k.new _ _ n h1,L2.Paired.d9 h2 hR⟩
theorem xh.cG {α:Type} {R:Hp→α→V→Prop} {H0 H1 H:Hp} {v:V} {xs:List α} (d:∀b,H1 b=none→H0 b=none) (h:xh α R H1 H v xs):xh α R H0 H v xs:=by
 obtain⟨l,vs,e,n,h1,h2⟩:=h
 exact⟨l,vs,e,d l n,h1,h2⟩
def WB (C:aaB) (H0 H:Hp) (v:V) (F:List (Str × V)→Prop):Prop:=∃a dx fs,v=.ref a∧H0 a=none∧H a=some (.ins C dx fs)∧F fs
structure Cl where
 same:aaB
 unlike:aaB
 rule:aaB
 book:aaB
def Cl.look (c:Cl) (b:Bool):aaB:=if b=true then c.same else c.unlike
def pX (c:Cl) (H0 H:Hp) (k:Lk) (v:V):Prop:=WB (c.look k.same) H0 H v fun fs=>fs.lookup ("left":Str)=some (tx k.l)∧fs.lookup ("right":Str)=some (tx k.r)∧fs.lookup ("holds":Str)=none∧fs.lookup ("word":Str)=none
theorem pX.keep {c:Cl} {H0 H H':Hp} {x:Lk} {v:V} (k:Kp H0 H H') (h:pX c H0 H x v):pX c H0 H' x v:=by
 obtain⟨a,dx,fs,e,n,h1,h2⟩:=h
 exact⟨a,dx,fs,e,n,k.new _ _ n h1,h2⟩
def great (x:Cs):Bool:=decide (x.headD 0∈eX.cps.toList)
def once:List Cs→List Cs→List Cs
 | [],acc=>acc
 | x::r,acc=>once r (if x∈acc then acc else acc++[x])
def opens (fs:List Fc):List Cs:=once ((fs.flatMap (·.as)).filter great) []
def Facts (K:aae):=xh Fc (Fact K)
def Pairs (K:aae):=xh (Cs × Cs) (Pair K)
def Kinds (K:aae):=xh Kd (Kind K)
def tf (H0 H:Hp) (v:V) (xs:List Cs):Prop:=∃l,v=.ref l∧H0 l=none∧H l=some (.lst (xs.map tx))
def Looks (c:Cl) (H0 H:Hp) (v:V) (xs:List Lk):Prop:=∃l vs,v=.ref l∧H0 l=none∧H l=some (.lst vs)∧Paired (pX c H0 H) xs vs
structure pY (K:aae) (c:Cl) (H0 H:Hp) (r:Rl) (fs:List (Str × V)):Prop where
 title:fs.lookup ("title":Str)=some (tx r.title)
 taken:∃v,fs.lookup ("taken":Str)=some v∧Facts K H0 H v r.take
 kept:∃v,fs.lookup ("kept":Str)=some v∧Facts K H0 H v r.keep
 aO:∃v,fs.lookup ("looks":Str)=some v∧Looks c H0 H v r.aO
 given:∃v,fs.lookup ("given":Str)=some v∧Facts K H0 H v r.put
 told:∃v,fs.lookup ("told":Str)=some v∧Pairs K H0 H v r.tell
 names:∃v,fs.lookup ("names":Str)=some v∧tf H0 H v (opens (r.take++r.keep))
 calls:fs.lookup ("calls":Str)=none
def ij (K:aae) (c:Cl) (H0 H:Hp) (r:Rl) (v:V):Prop:=WB c.rule H0 H v (pY K c H0 H r)
theorem tf.keep {H0 H H':Hp} {v:V} {xs:List Cs} (k:Kp H0 H H') (h:tf H0 H v xs):tf H0 H' v xs:=by
 obtain⟨l,e,n,h1⟩:=h
 exact⟨l,e,n,k.new _ _ n h1⟩
theorem Looks.keep {c:Cl} {H0 H H':Hp} {v:V} {xs:List Lk} (k:Kp H0 H H') (h:Looks c H0 H v xs):Looks c H0 H' v xs:=by
 obtain⟨l,vs,e,n,h1,h2⟩:=h
 exact⟨l,vs,e,n,k.new _ _ n h1,L2.Paired.d9 h2 fun _ _ z=>z.keep k⟩
theorem Facts.keep {K:aae} {H0 H H':Hp} {v:V} {xs:List Fc} (k:Kp H0 H H') (h:Facts K H0 H v xs):Facts K H0 H' v xs:=xh.keep k (fun _ _ z=>z.keep k) h
theorem Pairs.keep {K:aae} {H0 H H':Hp} {v:V} {xs:List (Cs × Cs)} (k:Kp H0 H H') (h:Pairs K H0 H v xs):Pairs K H0 H' v xs:=xh.keep k (fun _ _ z=>z.keep k) h
theorem Kinds.keep {K:aae} {H0 H H':Hp} {v:V} {xs:List Kd} (k:Kp H0 H H') (h:Kinds K H0 H v xs):Kinds K H0 H' v xs:=xh.keep k (fun _ _ z=>z.keep k) h
theorem pY.keep {K:aae} {c:Cl} {H0 H H':Hp} {r:Rl} {fs:List (Str × V)} (k:Kp H0 H H') (h:pY K c H0 H r fs):pY K c H0 H' r fs:=by
 obtain⟨h1,⟨v2,e2,h2⟩,⟨v3,e3,h3⟩,⟨v4,e4,h4⟩,⟨v5,e5,h5⟩,⟨v6,e6,h6⟩,⟨v7,e7,h7⟩,h8⟩:=h
 exact⟨h1,⟨v2,e2,h2.keep k⟩,⟨v3,e3,h3.keep k⟩,⟨v4,e4,h4.keep k⟩,⟨v5,e5,h5.keep k⟩,⟨v6,e6,h6.keep k⟩,⟨v7,e7,h7.keep k⟩,h8⟩
theorem ij.keep {K:aae} {c:Cl} {H0 H H':Hp} {r:Rl} {v:V} (k:Kp H0 H H') (h:ij K c H0 H r v):ij K c H0 H' r v:=by
 obtain⟨a,dx,fs,e,n,h1,h2⟩:=h
 exact⟨a,dx,fs,e,n,k.new _ _ n h1,h2.keep k⟩
def Rules (K:aae) (c:Cl) (H0 H:Hp) (v:V) (xs:List Rl):Prop:=∃l vs,v=.ref l∧H0 l=none∧H l=some (.lst vs)∧Paired (ij K c H0 H) xs vs
structure Sh (K:aae) (c:Cl) (H0 H:Hp) (ks:List Kd) (rs:List Rl) (fs:List (Str × V)):Prop where
 kinds:∃v,fs.lookup ("kinds":Str)=some v∧Kinds K H0 H v ks
 rules:∃v,fs.lookup ("rules":Str)=some v∧Rules K c H0 H v rs
def yR (K:aae) (c:Cl) (H0 H:Hp) (ks:List Kd) (rs:List Rl) (v:V):Prop:=WB c.book H0 H v (Sh K c H0 H ks rs)
theorem Rules.keep {K:aae} {c:Cl} {H0 H H':Hp} {v:V} {xs:List Rl} (k:Kp H0 H H') (h:Rules K c H0 H v xs):Rules K c H0 H' v xs:=by
 obtain⟨l,vs,e,n,h1,h2⟩:=h
 exact⟨l,vs,e,n,k.new _ _ n h1,L2.Paired.d9 h2 fun _ _ z=>z.keep k⟩
theorem yR.keep {K:aae} {c:Cl} {H0 H H':Hp} {ks:List Kd} {rs:List Rl} {v:V} (k:Kp H0 H H') (h:yR K c H0 H ks rs v):yR K c H0 H' ks rs v:=by
 obtain⟨a,dx,fs,e,n,h1,⟨v2,e2,h2⟩,⟨v3,e3,h3⟩⟩:=h
 exact⟨a,dx,fs,e,n,k.new _ _ n h1,⟨v2,e2,h2.keep k⟩,⟨v3,e3,h3.keep k⟩⟩
def a6 (p:Cs):Bool:=aD p && decide (p.headD 0∈ef.cps.toList)
inductive lK:List Cs→Fc→Prop
 | bare {k:Cs} (hk:a6 k=true):lK [k] ⟨k,[]⟩
 | empty {k:Cs} (hk:a6 k=true):lK [k,[40],[41]] ⟨k,[]⟩
 | args {k:Cs} {as:List Cs} (hk:a6 k=true) (h0:as≠[]) (h:∀a∈as,aD a=true):lK (k::[40]::between as) ⟨k,as⟩
inductive pZ:List Cs→List Fc→Prop
 | one {ps:List Cs} {f:Fc} (h:lK ps f):pZ ps [f]
 | more {ps r:List Cs} {f:Fc} {fs:List Fc} (h:lK ps f) (t:pZ r fs):pZ (ps++[44]::r) (f::fs)
def cM (m:Cs):List Cs→List (List Cs)→List (List Cs)
 | [],rows=>rows
 | p::r,rows=>cM m r (if p=m then rows++[[]] else rows.dropLast++[rows.getLastD []++[p]])
def glue (m:Cs):List (List Cs)→List Cs
 | []=>[]
 | [q]=>q
 | q::r=>q++m::glue m r
theorem lL {m:Cs}:∀(q rest:List Cs) (done:List (List Cs)) (cur:List Cs),m∉q→cM m (q++rest) (done++[cur])=cM m rest (done++[cur++q])
 | [],rest,done,cur,_=>by rw [abD,aaZ]
 | p::q,rest,done,cur,h=>by
  have hp:p≠m:=fun e=>h (by rw [e];exact aav)
  have hq:m∉q:=fun z=>h (aam _ z)
  show cM m (q++rest) (if p=m then _ else (done++[cur]).dropLast++[(done++[cur]).getLastD []++[p]])=_
  rw [if_neg hp,aek,show(done++[cur]).getLastD []=cur by simp,lL q rest done (cur++[p]) hq,aaT,ac2]
theorem gq {m:Cs}:∀(qs:List (List Cs)) (done:List (List Cs)),qs≠[]→(∀q∈qs,m∉q)→cM m (glue m qs) (done++[[]])=done++qs
 | [],_,h,_=>absurd rfl h
 | [q],done,_,h=>by
  have e:=lL q [] done [] (h q (by simp))
  rw [aaZ] at e
  show cM m q _=_
  rw [e]
  rfl
 | q::q2::r,done,_,h=>by
  have e:=lL q (m::glue m (q2::r)) done [] (h q (by simp))
  show cM m (q++m::glue m (q2::r)) _=_
  rw [e]
  show cM m (glue m (q2::r)) (if m=m then (done++[[]++q])++[[]] else _)=_
  rw [if_pos rfl,gq (q2::r) (done++[[]++q]) (by simp) fun x hx=>h x (aam _ hx),abD,aaT,ac2]
end Bk
namespace Bk
open PySem L2 cR
def gm (x:Str):Bool:=decide ((1:Int)≤x.length) && (decide ((x.length:Int)≤12) && x.cps.toList.all bp)
theorem p6 (p:List Nat):gm (S p)=aD p:=by
 unfold gm aD
 rw [aS,bH]
 have e1:decide ((1:Int)≤(p.length:Int))=decide (1≤p.length):=by
  rw [decide_eq_decide];omega
 have e2:decide ((p.length:Int)≤12)=decide (p.length≤12):=by
  rw [decide_eq_decide];omega
 rw [e1,e2]
theorem uD {x:Str} (h:1≤x.length):lu x.cps.toList (0:Int)=some (x.cps.toList.headD 0):=by
 have e:=lJ x
 cases q:x.cps.toList with
 | nil=>rw [q] at e;simp at e;omega
 | cons a r=>exact bz (j:=0) rfl
theorem Jz {x:Str} (h:gm x=true):1≤x.length:=by
 unfold gm at h
 simp only [aaW,decide_eq_true_eq] at h
 omega
theorem sz {n:Nat} (h:n≤100000):n≤aaj:=by rw [aax];omega
theorem iC {n:Nat} (h:n≤100000):n<aaj:=by rw [aax];omega
theorem aj {H:Hp} {p:aaB} (h:H p=none) (o:HO):ai H (upd H p o):=fun b u q=>by rw [aH (aP q h)];exact q
theorem ai.aR {H H':Hp} {p:aaB} (e:ai H H') (h:H p=none) (o:HO):ai H (upd H' p o):=fun b u q=>by
 rw [aH (aP q h)]
 exact e b u q
theorem mid {a b:Int} (h:0<b):0≤a % b∧a % b<b:=⟨adj a (by omega),Int.emod_lt_of_pos a h⟩
theorem getD_get {l:List Nat} {i:Nat} (h:i<l.length):l[i]?=some (l.getD i 0):=by
 rw [Gd9,Ge9 h]
 rfl
theorem Cw {l:List Nat} {i:Nat} (h:i<l.length):l.drop i=l.getD i 0::l.drop (i+1):=by
 rw [abE h,Gd9,Ge9 h]
 rfl
theorem vr {x:Str} {i:Int} (h0:0≤i) (h1:i<x.length):lu x.cps.toList i=some (x.cps.toList.getD i.toNat 0):=by
 have hl:=lJ x
 have hk:i.toNat<x.cps.toList.length:=by omega
 have z:=bz (xs:=x.cps.toList) (j:=i.toNat) (v:=x.cps.toList.getD i.toNat 0) (getD_get hk)
 rw [show((i.toNat:Nat):Int)=i by omega] at z
 exact z
def jD (x:Str):Bool:=gm x && decide (x.cps.toList.headD 0∈ef.cps.toList)
theorem Cy (p:List Nat):jD (S p)=a6 p:=by
 unfold jD a6
 rw [p6,bH]
def EH:Sp:=fun vs H Q _=>∃c,vs=[.str ⟨#[c]⟩]∧Q (.bl (bp c)) H
def Cz (f:Str→Bool):Sp:=fun vs H Q _=>∃x,vs=[.str x]∧x.length≤20000∧∀H',ai H H'→Q (.bl (f x)) H'
def z0:Sp:=fun vs H Q _=>∃p:Cs,vs=[tx p]∧p≠[]∧p.length≤1000∧Q (.bl (great p)) H
def NQ:Sp:=fun vs H Q _=>∃(x:Str) (p:Nat),vs=[.str x,.int p]∧x.length≤20000∧p≤x.length∧Q (.int ((p+bQ (x.cps.toList.drop p):Nat):Int)) H
def uE (m:Str) (c:Nat):Bool:=bp c || (decide (c∈m.cps.toList) || c == 32)
def CA:Sp:=fun vs H Q _=>∃x m,vs=[.str x,.str m]∧x.length≤20000∧32∉m.cps.toList∧x.cps.toList.all (uE m)=true∧∀(l:aaB) (H':Hp),ai H H'→H l=none→H' l=some (.lst ((toks x.cps.toList).map tx))→Q (.ref l) H'
def uF:Sp:=fun vs H Q _=>∃(l:aaB) (ps:List Cs) (p:Nat),vs=[.ref l,.int p]∧H l=some (.lst (ps.map tx))∧ps.length≤20000∧Q (tx (ps.getD p [])) H
def JA:Sp:=fun vs H Q _=>∃(l:aaB) (ps:List Cs) (p n:Nat) (as:List Cs),vs=[.ref l,.int p]∧H l=some (.lst (ps.map tx))∧ps.length≤20000 ∧
 ((as=[]∧n=1∧ps.getD p []=[41])∨(ps.getD p []≠[41]∧gj (ps.drop p)=some (as,n))) ∧
 ∀(t t2:aaB) (H':Hp),ai H H'→H' t=some (.tup [.ref t2,.int ((p+n:Nat):Int)])→H' t2=some (.tup (as.map tx))→Q (.ref t) H'
inductive lM:List Cs→Cs→List Cs→Nat→Prop
 | bare {k:Cs} {r:List Cs} (hk:a6 k=true) (h:r.getD 0 []≠[40]):lM (k::r) k [] 1
 | empty {k:Cs} {r:List Cs} (hk:a6 k=true):lM (k::[40]::[41]::r) k [] 3
 | args {k:Cs} {r as:List Cs} {n:Nat} (hk:a6 k=true) (h0:r.getD 0 []≠[41]) (h:gj r=some (as,n)):lM (k::[40]::r) k as (n+2)
def CB:Sp:=fun vs H Q _=>∃(l:aaB) (ps:List Cs) (p n:Nat) (k:Cs) (as:List Cs),vs=[.ref l,.int p]∧H l=some (.lst (ps.map tx))∧ps.length≤20000∧lM (ps.drop p) k as n ∧
 ∀(t t1 t2:aaB) (H':Hp),ai H H'→H' t=some (.tup [.ref t1,.int ((p+n:Nat):Int)])→H' t1=some (.tup [tx k,.ref t2])→H' t2=some (.tup (as.map tx))→Q (.ref t) H'
theorem EI (l:List Nat):bQ l≤l.length:=by
 unfold bQ
 exact(List.takeWhile_sublist bp).length_le
theorem z6 (c:Nat) (r:List Nat):bQ (c::r)=if bp c=true then bQ r+1 else 0:=by
 unfold bQ
 rw [adi]
 split <;> simp
theorem rV:∀(l cur:List Nat),(b7 l cur).length≤l.length+(if cur=[] then 0 else 1)
 | [],cur=>by
  show(shut cur []).length≤_
  unfold shut
  by_cases h:cur=[] <;> simp [h]
 | c::r,cur=>by
  show(if bp c=true then b7 r (cur++[c]) else shut cur (if c=32 then b7 r [] else [c]::b7 r [])).length≤_
  have e1:=rV r (cur++[c])
  have e2:=rV r []
  rw [if_neg (by simp)] at e1
  rw [if_pos rfl] at e2
  by_cases ha:bp c=true
  ·rw [if_pos ha,aar]
   omega
  ·rw [if_neg ha,aar]
   unfold shut
   by_cases h:cur=[] <;> by_cases h2:c=32 <;> simp [h,h2] <;> omega
theorem CC (l:List Nat):(toks l).length≤l.length:=by
 have e:=rV l []
 rw [if_pos rfl] at e
 exact e
theorem vv {c:Nat} (ha:bp c=false) (hb:c≠32) (r:List Nat):toks (c::r)=[c]::toks r:=by
 show(if bp c=true then b7 r ([]++[c]) else shut [] (if c=32 then b7 r [] else [c]::b7 r []))=_
 rw [ha,if_neg (by simp),if_neg hb]
 rfl
theorem F6 {x:Str} {p n:Nat} (h:p+n≤x.length):adg x (some (p:Int)) (some ((p+n:Nat):Int))=S ((x.cps.toList.drop p).take n):=by
 have e:=G6 (z:=x) (i:=p) (j:=((p+n:Nat):Int)) (by omega) (by omega) (by omega)
 rw [← vp (adg x (some (p:Int)) (some ((p+n:Nat):Int))),e,show((p:Int)).toNat=p by omega,show(((p+n:Nat):Int) - (p:Int)).toNat=n by omega]
theorem gE {l:List Cs} {p i:Nat}:(l.drop p).getD i []=l.getD (p+i) []:=by
 rw [Gd9,Gd9,List.getElem?_drop]
theorem Hd {l as:List Cs} {n:Nat} (h:gj l=some (as,n)):∃nm mk r,l=nm::mk::r∧aD nm=true∧((mk=[41]∧as=[nm]∧n=2)∨(mk=[44]∧∃as' n',gj r=some (as',n')∧as=nm::as'∧n=n'+2)):=by
 match l,h with
 | nm::mk::r,h =>
  refine⟨nm,mk,r,rfl,?_⟩
  have h':(if aD nm=true then (if mk=[41] then some ([nm],2) else if mk=[44] then (gj r).map (fun q=>(nm::q.1,q.2+2)) else none) else none)=some (as,n):=h
  by_cases hn:aD nm=true
  ·rw [if_pos hn] at h'
   refine⟨hn,?_⟩
   by_cases h1:mk=[41]
   ·rw [if_pos h1] at h'
    injection h' with h'
    injection h' with a b
    exact .inl ⟨h1,a.symm,b.symm⟩
   ·rw [if_neg h1] at h'
    by_cases h2:mk=[44]
    ·rw [if_pos h2] at h'
     cases q:gj r with
     | none=>rw [q] at h';cases h'
     | some z =>
      rw [q] at h'
      injection h' with h'
      injection h' with a b
      exact .inr ⟨h2,z.1,z.2,rfl,a.symm,b.symm⟩
    ·rw [if_neg h2] at h'
     cases h'
  ·rw [if_neg hn] at h'
   cases h'
 | [_],h=>exact nomatch h
 | [],h=>exact nomatch h
theorem JB {a b:Cs} (h:a≠b):decide (tx a=tx b)=false:=decide_eq_false fun z=>h (Jy z)
def F7 (x m:Str) (l:aaB) (H:Hp) (n:Nat) (σ:St) (H':Hp):Prop:=∃(p:Nat) (done:List Cs) (o3 o4:Option V),n=x.length - p∧σ=[some (.str x),some (.str m),some (.ref l),some (.int p),o3,o4]∧p≤x.length∧ai H H'∧H' l=some (.lst (done.map tx))∧done++toks (x.cps.toList.drop p)=toks x.cps.toList
def NS (l ln:aaB) (ps as:List Cs) (e:Nat) (H:Hp) (m:Nat) (σ:St) (H':Hp):Prop:=∃(p n:Nat) (done as':List Cs) (o3 o4:Option V),m=(ps.drop p).length∧σ=[some (.ref l),some (.int p),some (.ref ln),o3,o4]∧ai H H'∧H' l=some (.lst (ps.map tx))∧H' ln=some (.lst (done.map tx))∧gj (ps.drop p)=some (as',n)∧done++as'=as∧p+n=e∧done.length+(ps.drop p).length≤20000
theorem eO {p:Cs} (h:aD p=true):1≤p.length∧p.length≤12:=by
 unfold aD at h
 simp only [aaW,decide_eq_true_eq] at h
 exact⟨h.1,h.2.1⟩
theorem dW {p:Cs} (h:a6 p=true):1≤p.length∧p.length≤12:=by
 unfold a6 at h
 simp only [aaW] at h
 exact eO h.1
theorem lK.at {ps:List Cs} {f:Fc} (h:lK ps f) {r:List Cs} (hr:r.getD 0 []≠[40]):lM (ps++r) f.k f.as ps.length:=by
 cases h with
 | bare hk=>exact .bare hk hr
 | empty hk=>exact .empty hk
 | @args k as hk h0 h =>
  have e:=nO as h0 h
  have e2:∀(as:List Cs) (r:List Cs),as≠[]→(∀a∈as,aD a=true)→gj (between as++r)=some (as,(between as).length):=by
   intro as
   induction as with
   | nil=>intro r z;exact absurd rfl z
   | cons a t ih =>
    intro r _ ha
    cases t with
    | nil =>
     show gj (a::[41]::r)=some ([a],2)
     show(if aD a=true then (if ([41]:Cs)=[41] then some ([a],2) else _) else none)=_
     rw [if_pos (ha a (by simp)),if_pos rfl]
    | cons b t =>
     have ih':=ih r (by simp) fun x hx=>ha x (aam _ hx)
     show gj (a::[44]::(between (b::t)++r))=some (a::b::t,(between (b::t)).length+2)
     show(if aD a=true then (if ([44]:Cs)=[41] then some ([a],2) else if ([44]:Cs)=[44] then (gj (between (b::t)++r)).map (fun q=>(a::q.1,q.2+2)) else none) else none)=_
     rw [if_pos (ha a (by simp)),if_neg (by decide),if_pos rfl,ih']
     rfl
  have e3:=e2 as r h0 h
  have n41:(between as++r).getD 0 []≠[41]:=by
   cases as with
   | nil=>exact absurd rfl h0
   | cons a t =>
    have ha:=h a (by simp)
    have hh:(between (a::t)++r).getD 0 []=a:=by cases t <;> rfl
    rw [hh]
    intro z
    rw [z] at ha
    exact absurd ha (by decide +kernel)
  have z:=lM.args hk n41 e3
  show lM (k::[40]::(between as++r)) k as ((between as).length+2)
  exact z
theorem lK.pos {ps:List Cs} {f:Fc} (h:lK ps f):1≤ps.length:=by
 cases h <;> simp
theorem pZ.pos {ps:List Cs} {fs:List Fc} (h:pZ ps fs):1≤ps.length:=by
 cases h with
 | one h=>exact h.pos
 | more h t=>rw [aag];have:=h.pos;omega
theorem pZ.head {ps:List Cs} {fs:List Fc} (h:pZ ps fs):∃(f:Fc) (n:Nat) (fs':List Fc),fs=f::fs'∧lM ps f.k f.as n∧((n=ps.length∧fs'=[])∨(n<ps.length∧ps.getD n []=[44]∧pZ (ps.drop (n+1)) fs')):=by
 cases h with
 | @one _ f h =>
  have z:=h.at (r:=[]) (by simp)
  rw [aaZ] at z
  exact⟨f,ps.length,[],rfl,z,.inl ⟨rfl,rfl⟩⟩
 | @more ps r f fs h t =>
  refine⟨f,ps.length,fs,rfl,h.at (by simp),.inr ⟨by simp,?_,?_⟩⟩
  ·rw [Gd9,adn (aaz _)]
   simp
  ·have e:(ps++[44]::r).drop (ps.length+1)=r:=by
    rw [← acZ,List.drop_left]
    rfl
   rw [e]
   exact t
def NT (K:aae):Sp:=fun vs H Q _=>∃(l:aaB) (ps:List Cs) (fs:List Fc),vs=[.ref l]∧H l=some (.lst (ps.map tx))∧ps.length≤20000∧pZ ps fs∧∀v H',ai H H'→Facts K H H' v fs→Q v H'
def Si (K:aae) (l lf:aaB) (ps:List Cs) (fs:List Fc) (H:Hp) (m:Nat) (σ:St) (H':Hp):Prop:=∃(p:Nat) (done rest:List Fc) (vs:List V) (o3:Option V),m=(ps.drop p).length∧σ=[some (.ref l),some (.ref lf),some (.int p),o3]∧ai H H'∧H' l=some (.lst (ps.map tx))∧H' lf=some (.lst vs)∧Paired (Fact K H') done vs∧pZ (ps.drop p) rest∧done++rest=fs∧done.length+(ps.drop p).length≤20000
end Bk
namespace Bk
open PySem L2 cR
def cH:List Cs→Cs
 | []=>[]
 | [a]=>a
 | a::r=>a++10::cH r
def nB:Cs→List Cs
 | []=>[[]]
 | c::r=>if c=10 then []::nB r else match nB r with
  | []=>[[c]]
  | q::qs=>(c::q)::qs
theorem U0:∀p,nB p≠[]
 | []=>by simp [nB]
 | c::r=>by
  unfold nB
  split
  ·simp
  ·split <;> simp
theorem CD:∀(a r:Cs),10∉a→nB (a++10::r)=a::nB r
 | [],r,_=>by
  show(if 10=10 then []::nB r else _)=_
  rw [if_pos rfl]
 | c::a,r,h=>by
  have hc:c≠10:=fun e=>h (by rw [e];exact aav)
  have ih:=CD a r fun z=>h (aam _ z)
  show(if c=10 then []::nB (a++10::r) else match nB (a++10::r) with|[]=>[[c]]|q::qs=>(c::q)::qs)=_
  rw [if_neg hc,ih]
theorem CF:∀(a:Cs),10∉a→nB a=[a]
 | [],_=>rfl
 | c::a,h=>by
  have hc:c≠10:=fun e=>h (by rw [e];exact aav)
  have ih:=CF a fun z=>h (aam _ z)
  show(if c=10 then []::nB a else match nB a with|[]=>[[c]]|q::qs=>(c::q)::qs)=_
  rw [if_neg hc,ih]
theorem rW:∀(ls:List Cs),ls≠[]→(∀l∈ls,10∉l)→nB (cH ls)=ls
 | [],h,_=>absurd rfl h
 | [a],_,h=>CF a (h a (by simp))
 | a::b::r,_,h=>by
  show nB (a++10::cH (b::r))=_
  rw [CD a _ (h a (by simp)),rW (b::r) (by simp) fun l hl=>h l (aam _ hl)]
theorem CG:∀(ls:List Str),(ac0 ⟨#[10]⟩ ls).cps.toList=cH (ls.map fun s=>s.cps.toList)
 | []=>rfl
 | [a]=>rfl
 | a::b::r=>by
  have ih:=CG (b::r)
  show((a++(⟨#[10]⟩:Str))++ac0 ⟨#[10]⟩ (b::r)).cps.toList=_
  rw [aby,aby,ih]
  show(a.cps.toList++[10])++_=a.cps.toList++10::_
  simp
theorem JC (x:Str):acM x ⟨#[10]⟩≠[]:=by
 unfold acM
 split
 ·simp
 ·split
  ·simp
  ·intro h
   have e:=congrArg aco h
   rw [PyProof.Rows.len_partsBetween] at e
   simp at e
theorem CH {ls:List Cs} (h0:ls≠[]) (h:∀l∈ls,10∉l):acM (S (cH ls)) (aaf "\n")=ls.map S:=by
 have e0:(aaf "\n")=⟨#[10]⟩:=by decide +kernel
 rw [e0]
 have e1:=StrLaws.join_split (S (cH ls)) ⟨#[10]⟩
 have hf:=StrLaws.split_free (S (cH ls)) 10
 have hn:=JC (S (cH ls))
 generalize acM (S (cH ls)) ⟨#[10]⟩=ts at e1 hf hn
 have e2:cH (ts.map fun s=>s.cps.toList)=cH ls:=by
  rw [← CG,e1]
 have e3:=congrArg nB e2
 rw [rW ls h0 h,rW _ (by simpa using hn) (by
  intro l hl
  obtain⟨t,ht,rfl⟩:=aay.mp hl
  exact hf t ht)] at e3
 rw [← e3,abz]
 have e4:(S ∘ fun s:Str=>s.cps.toList)=id:=by
  funext s
  exact vp s
 rw [e4,acr]
def told (p:Cs):Bool:=match p.dropWhile (· == 32) with
 | []=>false
 | c::_=>!(c == 35)
theorem F8 (f:Nat→Bool):∀(l:Cs),l.drop (l.takeWhile f).length=l.dropWhile f
 | []=>rfl
 | a::r=>by
  rw [adi,acB]
  by_cases h:f a=true
  ·rw [if_pos h,if_pos h]
   exact F8 f r
  ·rw [if_neg h,if_neg h]
   rfl
theorem JD (p:Cs):∃q:Cs,aen (S p) (aaf " ")=S q∧q.length≤p.length∧q.head?=(p.dropWhile (· == 32)).head?:=by
 have e0:(aaf " ").cps.contains=fun c=>c == 32:=by
  funext c
  have e:(aaf " ").cps = #[32]:=by decide +kernel
  rw [e]
  simp [aec]
 unfold aen
 rw [e0,PyProof.Rows.stripBy_eq]
 obtain⟨a1,a2,a3⟩:=PyProof.Rows.lo_facts (fun c=>c == 32) (S p)
 obtain⟨b1,b2,b3,b4⟩:=PyProof.Rows.hi_facts (fun c=>c == 32) (S p) _ a1
 have elo:stripLo (fun c=>c == 32) true (S p)=(p.takeWhile (· == 32)).length:=by
  simp [stripLo]
 rw [aS] at a1 a3 b2 b3
 generalize hlo:stripLo (fun c=>c == 32) true (S p)=lo at a1 a2 a3 b1 b2 b3 b4 elo
 generalize hhi:stripHi (fun c=>c == 32) true (S p) lo=hi at b1 b2 b3 b4
 refine⟨(p.drop lo).take (hi - lo),?_,?_,?_⟩
 ·rw [← vp (Builtin.Str.strSub (S p) lo hi),StrLaws.strSub_toList,bH]
 ·rw [aaA,aba]
  omega
 ·rw [← F8,← elo]
  by_cases hx:lo=p.length
  ·rw [hx,List.drop_length,List.take_nil]
  ·have hl:lo<p.length:=by omega
   have t9:lo<hi:=by
    refine Nat.lt_of_not_le fun z=>?_
    have z1:=b3 lo z hl
    rcases a3 with a3|a3
    ·exact hx a3
    ·rw [z1] at a3;cases a3
   rw [List.head?_take]
   rw [if_neg (by omega)]
def JE:Sp:=fun vs H Q _=>∃p:Cs,vs=[tx p]∧p.length≤20000∧Q (.bl (told p)) H
def F9:Sp:=fun vs H Q _=>∃ls:List Cs,vs=[tx (cH ls)]∧ls≠[]∧(∀l∈ls,10∉l)∧(cH ls).length≤20000∧∀v H',ai H H'→tf H H' v (ls.filter told)→Q v H'
theorem yS:∀(ls:List Cs),ls.length≤(cH ls).length+1
 | []=>by simp [cH]
 | [a]=>by simp [cH]
 | a::b::r=>by
  have ih:=yS (b::r)
  show(a::b::r).length≤(a++10::cH (b::r)).length+1
  rw [aag,aar,aar (a:=10)]
  omega
theorem rY:∀(ls:List Cs) (l:Cs),l∈ls→l.length≤(cH ls).length
 | [a],l,h=>by rw [aal.mp h];exact aaz _
 | a::b::r,l,h=>by
  have ih:=rY (b::r)
  show l.length≤(a++10::cH (b::r)).length
  rw [aag,aar]
  rcases aaN.mp h with e|h
  ·rw [e];omega
  ·have:=ih l h;omega
abbrev eE:Str:="(),:;="
def JF:Sp:=fun vs H Q _=>∃p:Cs,vs=[tx p]∧p.length≤20000∧p.all (uE eE)=true∧∀v H',ai H H'→tf H H' v (toks p)→Q v H'
abbrev bq:Cs:=[112,97,115,115,105,110,103]
abbrev br:Cs:=[108,97,115,116,105,110,103]
abbrev dc:Cs:=[114,117,108,101]
abbrev bJ:Cs:=[116,97,107,101]
abbrev bR:Cs:=[107,101,101,112]
abbrev bN:Cs:=[108,111,111,107]
abbrev dA:Cs:=[112,117,116]
abbrev cn:Cs:=[116,101,108,108]
def vw (k:Kd):List Cs:=[if k.l=true then br else bq,k.n,[48+k.c]]
def JG (K:aae):Sp:=fun vs H Q _=>∃(l:aaB) (k:Kd),vs=[.ref l]∧H l=some (.lst ((vw k).map tx))∧a6 k.n=true∧k.c≤4∧∀v H',ai H H'→Kind K H' k v→Q v H'
end Bk
namespace Bk
open PySem L2 cR
theorem cS {tt:TE} {bu:List Nat} {σ:St} {H1:Hp} {Q:VK} {K:aae} {a:aaB} {xs:List V} {D:aaB} {β:Type} (bs:List β) (Out:Hp→Hp→β→V→Prop)
  (keep:∀H0 H H' b y,Kp H0 H H'→Out H0 H b y→Out H0 H' b y) (cG:∀H0 H2 H b y,(∀c,H2 c=none→H0 c=none)→Out H2 H b y→Out H0 H b y)
  (hn:xs.length<aaj) (xr:H1 D=none) (hl:aL K H1 a xs) (hb:bs.length=xs.length)
  (he:∀(i:Nat) x b H' R,xs[i]?=some x→bs[i]?=some b→ai H1 H'→(∀y ig,ai H' ig→Out H' ig b y→R y ig)→tt (cV σ (some x) bu) H' R)
  (hd:∀H' ys,ai H1 H'→H' D=some (.lst ys)→Paired (Out H1 H') bs ys→Q (.ref D) H'):lE xq tt bu σ Q (IJ K a) H1 D:=by
 have s0:ai H1 (upd H1 D (.lst [])):=aj xr _
 have Pp:∀c,upd H1 D (.lst []) c=none→H1 c=none:=fun c h=>s0.free h
 refine i9 (K:=K) (a:=a) (xs:=xs) hn (fun i ys H'=>ai H1 H'∧H' D=some (.lst ys)∧(∀c,H' c=none→upd H1 D (.lst []) c=none)∧Paired (Out (upd H1 D (.lst [])) H') (bs.take i) ys) ⟨s0,ae,fun _ h=>h,.nil⟩
  (fun i ys H' p=>p.1.seq hl) (fun i ys H' p=>⟨p.2.1,?_⟩) (fun i ys H' hi p=>?_) (fun ys H' p=>?_)
 ·have z:=aao p.2.2.2
  rw [aaA] at z
  omega
 ·have hx:xs.getD i .cB=xs[i]:=by rw [Gd9,Ge9 hi];rfl
  rw [hx]
  have dw:i<bs.length:=by omega
  refine he i xs[i] bs[i] H' _ (Ge9 hi) (Ge9 dw) p.1 fun y H2 s2 ho=>?_
  have kO:=s2 _ _ p.2.1
  have kp:Kp (upd H1 D (.lst [])) H2 (upd H2 D (.lst (ys++[y]))):=Kp.upd ae kO (by intro xs z;cases z) (by intro o u z;cases z)
  refine⟨kO,ai.aR (ai.trans p.1 s2) xr _,ae,fun c h=>?_,?_⟩
  ·have h2:=kp.vq c h
   exact p.2.2.1 c (s2.free h2)
  ·rw [aak dw]
   refine(L2.Paired.d9 p.2.2.2 fun b v z=>keep _ _ _ _ _ kp (keep _ _ _ _ _ (Kp.same s2) z)).snoc ?_
   exact keep _ _ _ _ _ kp (cG _ _ _ _ _ p.2.2.1 ho)
 ·have z:=p.2.2.2
  rw [abm (by omega)] at z
  exact hd H' ys p.1 p.2.1 (L2.Paired.d9 z fun b v h=>cG _ _ _ _ _ (fun c h=>by
   by_cases e:c=D
   ·rw [e];exact xr
   ·exact Pp c h) h)
def jd (m p:Cs) (rows:List (List Cs)):List (List Cs):=if p=m then rows++[[]] else rows.dropLast++[rows.getLastD []++[p]]
theorem p7 (m p:Cs):∀(ps:List Cs) (rows:List (List Cs)),cM m (ps++[p]) rows=jd m p (cM m ps rows)
 | [],rows=>rfl
 | q::r,rows=>p7 m p r _
theorem JH {m p:Cs} {rows:List (List Cs)}:jd m p rows≠[]:=by
 unfold jd
 split <;> simp
theorem vx (m:Cs):∀(ps:List Cs) (rows:List (List Cs)),rows≠[]→cM m ps rows≠[]
 | [],rows,h=>h
 | q::r,rows,h=>vx m r _ (show jd m q rows≠[] from JH)
theorem tj {α β:Type} {R:α→β→Prop}:∀{l1:List α} {l2:List β},Paired R l1 l2→l1≠[]→∃a1 x b1 y,l1=a1++[x]∧l2=b1++[y]∧Paired R a1 b1∧R x y
 | _,_,.nil,h=>absurd rfl h
 | _,_,.cons (a:=a) (b:=b) (l₁:=l1) (l₂:=l2) r t,_=>by
  cases t with
  | nil=>exact⟨[],a,[],b,rfl,rfl,.nil,r⟩
  | cons r2 t2 =>
   obtain⟨a1,x,b1,y,e1,e2,h1,h2⟩:=tj (.cons r2 t2) (by simp)
   exact⟨a::a1,x,b::b1,y,by rw [e1];rfl,by rw [e2];rfl,.cons r h1,h2⟩
theorem oC {α β:Type} {R:α→β→Prop}:∀{l1:List α} {l2:List β},Paired R l1 l2→∀{y:β},y∈l2→∃x,x∈l1∧R x y
 | _,_,.nil,_,h=>nomatch h
 | _,_,.cons r t,y,h=>by
  rcases aaN.mp h with e|h
  ·subst e;exact⟨_,aav,r⟩
  ·obtain⟨x,hx,hr⟩:=oC t h
   exact⟨x,aam _ hx,hr⟩
theorem ax {α β:Type} {R R':α→β→Prop}:∀{l1:List α} {l2:List β},Paired R l1 l2→(∀a b,b∈l2→R a b→R' a b)→Paired R' l1 l2
 | _,_,.nil,_=>.nil
 | _,_,.cons r t,h=>.cons (h _ _ aav r) (ax t fun a b hb=>h a b (aam _ hb))
theorem tm {α β γ:Type} {g:β→γ} {R:α→γ→Prop}:∀{l1:List α} {l2:List β},Paired (fun a b=>R a (g b)) l1 l2→Paired R l1 (l2.map g)
 | _,_,.nil=>.nil
 | _,_,.cons r t=>.cons r (tm t)
def NU (H0 H:Hp) (row:List Cs) (v:V):Prop:=∃b,v=.ref b∧H0 b=none∧H b=some (.lst (row.map tx))
def Rows (H0 H:Hp) (v:V) (rows:List (List Cs)):Prop:=∃l vs,v=.ref l∧H0 l=none∧H l=some (.lst vs)∧Paired (NU H0 H) rows vs
def p8:Sp:=fun vs H Q _=>∃(l:aaB) (ps:List Cs) (m:Cs),vs=[.ref l,tx m]∧H l=some (.lst (ps.map tx))∧ps.length≤20000∧∀v H',ai H H'→Rows H H' v (cM m ps [[]])→Q v H'
theorem tq (m:Cs):∀(ps:List Cs) (rows:List (List Cs)),(cM m ps rows).length≤rows.length+ps.length+1
 | [],rows=>by show rows.length≤_;omega
 | p::r,rows=>by
  have ih:=tq m r (jd m p rows)
  have:(jd m p rows).length≤rows.length+1:=by
   unfold jd
   split
   ·simp
   ·rw [aag,List.length_dropLast,abk];omega
  show(cM m r (jd m p rows)).length≤_
  rw [aar]
  omega
theorem vy (m:Cs):∀(ps:List Cs) (rows:List (List Cs)) (B:Nat),(∀r∈rows,r.length≤B)→∀r∈cM m ps rows,r.length≤B+ps.length
 | [],rows,B,h,r,hr=>by have:=h r hr;show r.length≤B+0;omega
 | p::q,rows,B,h,r,hr=>by
  have ih:=vy m q (jd m p rows) (B+1) (by
   intro x hx
   unfold jd at hx
   split at hx
   ·rcases aaq.mp hx with hx|hx
    ·have:=h x hx;omega
    ·rw [aal.mp hx];simp
   ·rcases aaq.mp hx with hx|hx
    ·have:=h x ((List.dropLast_sublist rows).subset hx);omega
    ·rw [aal.mp hx,aag]
     have:(rows.getLastD []).length≤B:=by
      cases rows with
      | nil=>exact abt _
      | cons a t=>exact h _ (List.getLast_mem (by simp:a::t≠[]))
     rw [abk]
     omega) r hr
  rw [aar]
  omega
abbrev iD:Cs:=[115,97,109,101]
abbrev eF:Cs:=[117,110,108,105,107,101]
def je (k:Lk):List Cs:=[k.l,if k.same=true then iD else eF,k.r]
def jf (p:Cs × Cs):List Cs:=[p.1,[61],p.2]
def JI:Sp:=fun vs H Q _=>∃(l:aaB) (a m b:Cs),vs=[.ref l]∧H l=some (.lst [tx a,tx m,tx b])∧aD a=true∧aD b=true∧∀H',ai H H'→Q .cB H'
structure xw (K:aae) (C:aaB):Prop where
 cl:Ec K C
 nL:da K C "left"
 nR:da K C "right"
def jE (K:aae):Sp:=fun vs H Q _=>∃(C p dx:aaB) (l r:V),vs=[.ref p,l,r]∧xw K C∧H p=some (.ins C dx [])∧∀H' fs,H' p=some (.ins C dx fs)→fs.lookup ("left":Str)=some l→fs.lookup ("right":Str)=some r→fs.lookup ("holds":Str)=none→fs.lookup ("word":Str)=none→(∀b o,H b=some o→b≠p→H' b=some o)→Q .cB H'
def JJ (c:Cl):Sp:=fun vs H Q _=>∃(l:aaB) (k:Lk),vs=[.ref l]∧H l=some (.lst ((je k).map tx))∧aD k.l=true∧aD k.r=true∧∀v H',ai H H'→pX c H H' k v→Q v H'
def JK (K:aae):Sp:=fun vs H Q _=>∃(l:aaB) (p:Cs × Cs),vs=[.ref l]∧H l=some (.lst ((jf p).map tx))∧aD p.1=true∧aD p.2=true∧∀v H',ai H H'→Pair K H' p v→Q v H'
def Ga (c:Cl):Sp:=fun vs H Q _=>∃(l:aaB) (ks:List Lk),vs=[.ref l]∧H l=some (.lst ((glue [44] (ks.map je)).map tx))∧ks≠[]∧ks.length≤1000∧(∀k∈ks,aD k.l=true∧aD k.r=true)∧∀v H',ai H H'→Looks c H H' v ks→Q v H'
def Gb (K:aae):Sp:=fun vs H Q _=>∃(l:aaB) (ps:List (Cs × Cs)),vs=[.ref l]∧H l=some (.lst ((glue [44] (ps.map jf)).map tx))∧ps≠[]∧ps.length≤1000∧(∀k∈ps,aD k.1=true∧aD k.2=true)∧∀v H',ai H H'→Pairs K H H' v ps→Q v H'
theorem m6 {p:Cs} (h:aD p=true):p≠[44]:=by
 intro e
 rw [e] at h
 exact absurd h (by decide +kernel)
theorem vz {m:Cs}:∀(qs:List (List Cs)) (B:Nat),(∀q∈qs,q.length≤B)→(glue m qs).length≤qs.length * (B+1)
 | [],_,_=>by simp [glue]
 | [q],B,h=>by
  show q.length≤_
  have:=h q (by simp)
  simp
  omega
 | q::q2::r,B,h=>by
  have ih:=vz (m:=m) (q2::r) B fun x hx=>h x (aam _ hx)
  have hq:=h q (by simp)
  show(q++m::glue m (q2::r)).length≤_
  rw [aag,aar,aar,adT]
  omega
end Bk
namespace Bk
open PySem L2 cR
inductive Pt where
 | fs (l:List Fc)
 | lk (l:List Lk)
 | pr (l:List (Cs × Cs))
def dC (K:aae) (c:Cl) (H0 H:Hp) (v:V):Pt→Prop
 | .fs l=>Facts K H0 H v l
 | .lk l=>Looks c H0 H v l
 | .pr l=>Pairs K H0 H v l
theorem dC.keep {K:aae} {c:Cl} {H0 H H':Hp} {v:V} (k:Kp H0 H H'):∀{p:Pt},dC K c H0 H v p→dC K c H0 H' v p
 | .fs _,h=>Facts.keep k h
 | .lk _,h=>Looks.keep k h
 | .pr _,h=>Pairs.keep k h
theorem pX.cG {c:Cl} {H0 H1 H:Hp} {x:Lk} {v:V} (d:∀b,H1 b=none→H0 b=none) (h:pX c H1 H x v):pX c H0 H x v:=by
 obtain⟨a,dx,fs,e,n,r⟩:=h
 exact⟨a,dx,fs,e,d a n,r⟩
theorem Looks.cG {c:Cl} {H0 H1 H:Hp} {xs:List Lk} {v:V} (d:∀b,H1 b=none→H0 b=none) (h:Looks c H1 H v xs):Looks c H0 H v xs:=by
 obtain⟨l,vs,e,n,h1,h2⟩:=h
 exact⟨l,vs,e,d l n,h1,L2.Paired.d9 h2 fun _ _ z=>z.cG d⟩
theorem dC.cG {K:aae} {c:Cl} {H0 H1 H:Hp} {v:V} (d:∀b,H1 b=none→H0 b=none):∀{p:Pt},dC K c H1 H v p→dC K c H0 H v p
 | .fs _,h=>xh.cG d h
 | .lk _,h=>Looks.cG d h
 | .pr _,h=>xh.cG d h
def wordAt:Nat→Cs
 | 0=>bJ
 | 1=>bR
 | 2=>bN
 | 3=>dA
 | _=>cn
theorem vA {i j:Nat} (hi:i<5) (hj:j<5) (h:wordAt i=wordAt j):i=j:=by
 rcases(by omega:i=0∨i=1∨i=2∨i=3∨i=4) with e|e|e|e|e <;> subst e <;>
 rcases(by omega:j=0∨j=1∨j=2∨j=3∨j=4) with e|e|e|e|e <;> subst e <;> first|rfl|exact absurd h (by decide)
inductive lN:Nat→List Cs→Pt→Prop
 | fs {n:Nat} {ps:List Cs} {l:List Fc} (hn:n=0∨n=1∨n=3) (h:pZ ps l):lN n ps (.fs l)
 | lk {l:List Lk} (h0:l≠[]) (hl:l.length≤1000) (h:∀k∈l,aD k.l=true∧aD k.r=true):lN 2 (glue [44] (l.map je)) (.lk l)
 | pr {l:List (Cs × Cs)} (h0:l≠[]) (hl:l.length≤1000) (h:∀k∈l,aD k.1=true∧aD k.2=true):lN 4 (glue [44] (l.map jf)) (.pr l)
def JL (K:aae) (c:Cl):Sp:=fun vs H Q _=>∃(l:aaB) (n:Nat) (ps:List Cs) (p:Pt),vs=[tx (wordAt n),.ref l]∧H l=some (.lst (ps.map tx))∧ps.length≤20000∧lN n ps p∧∀v H',ai H H'→dC K c H H' v p→Q v H'
structure Pr where
 n:Nat
 ps:List Cs
 p:Pt
def NV:Nat→List Pr→Prop
 | _,[]=>True
 | m,x::r=>m≤x.n∧x.n<5∧NV (x.n+1) r
structure Gd (title:Cs) (L:List Pr):Prop where
 tt:a6 title=true
 ne:L≠[]
 inc:NV 0 L
 ok:∀x∈L,lN x.n x.ps x.p
 hd:∃x∈L,x.n=0∨x.n=1
 no:∀x∈L,[59]∉x.ps
def gI (title:Cs) (L:List Pr):List Cs:=dc::title::[58]::glue [59] (L.map fun x=>wordAt x.n::x.ps)
def dD (K:aae) (c:Cl) (H0 H:Hp) (L:List Pr) (kvs:List (Key × V)):Prop:=Paired (fun(x:Pr) (kv:Key × V)=>kv.1=aa3 (S (wordAt x.n))∧dC K c H0 H kv.2 x.p) L kvs
theorem dD.keep {K:aae} {c:Cl} {H0 H H':Hp} {L:List Pr} {kvs:List (Key × V)} (k:Kp H0 H H') (h:dD K c H0 H L kvs):dD K c H0 H' L kvs:=L2.Paired.d9 h fun _ _ z=>⟨z.1,z.2.keep k⟩
def JM (K:aae) (c:Cl):Sp:=fun vs H Q _=>∃(l:aaB) (title:Cs) (L:List Pr),vs=[.ref l]∧H l=some (.lst ((gI title L).map tx))∧(gI title L).length≤20000∧Gd title L ∧
 ∀(t d:aaB) (kvs:List (Key × V)) (H':Hp),ai H H'→H' t=some (.tup [tx title,.ref d])→H d=none→H' d=some (.dK kvs)→dD K c H H' L kvs→Q (.ref t) H'
theorem yT {kvs:List (Key × V)} {k:Key} (h:∀p∈kvs,p.1≠k):cb kvs k=none:=by
 cases e:cb kvs k with
 | none=>rfl
 | some v =>
  obtain⟨p,hp,hk⟩:=aay.mp (Mc e)
  exact absurd hk (h p hp)
theorem rZ:∀{L:List Pr} {m:Nat},NV m L→∀x∈L,m≤x.n∧x.n<5
 | [],_,_,_,h=>nomatch h
 | y::r,m,hi,x,h=>by
  rcases aaN.mp h with e|h
  ·subst e;exact⟨hi.1,hi.2.1⟩
  ·have z:=rZ hi.2.2 x h
   have:=hi.1
   exact⟨by omega,z.2⟩
theorem JN:∀{L:List Pr} {m:Nat},NV m L→∀i (h:i<L.length),(∀x∈L.take i,x.n<L[i].n)∧L[i].n<5
 | y::r,m,hi,0,_=>⟨(fun _ z=>by cases z),hi.2.1⟩
 | y::r,m,hi,i+1,h=>by
  have ih:=JN hi.2.2 i (by simpa using h)
  refine⟨fun x hx=>?_,ih.2⟩
  rw [List.take_succ_cons] at hx
  rcases aaN.mp hx with e|hx
  ·subst e
   have:=rZ hi.2.2 (r[i]'(by simpa using h)) (aap _)
   show x.n<(r[i]'(by simpa using h)).n
   omega
  ·exact ih.1 x hx
theorem yU:∀{L:List Pr} {m:Nat},NV m L→∀i (h:i<L.length),∀x∈L.drop (i+1),L[i].n+1≤x.n
 | y::r,m,hi,0,_,x,hx=>(rZ hi.2.2 x hx).1
 | y::r,m,hi,i+1,h,x,hx=>yU hi.2.2 i (by simpa using h) x hx
theorem Ge:∀{L:List Pr} {m:Nat},NV m L→m≤5→L.length≤5 - m
 | [],_,_,_=>abt _
 | y::r,m,hi,hm=>by
  have ih:=Ge hi.2.2 (by have:=hi.2.1;omega)
  have:=hi.1
  have:=hi.2.1
  rw [aar]
  omega
theorem CI {m:Cs}:∀(qs:List (List Cs)) (q:List Cs),q∈qs→q.length≤(glue m qs).length
 | [a],q,h=>by rw [aal.mp h];exact aaz _
 | a::b::r,q,h=>by
  have ih:=CI (m:=m) (b::r)
  show q.length≤(a++m::glue m (b::r)).length
  rw [aag,aar]
  rcases aaN.mp h with e|h
  ·rw [e];omega
  ·have:=ih q h;omega
theorem yV {K:aae} {c:Cl} {H0 H:Hp}:∀{L:List Pr} {kvs:List (Key × V)},dD K c H0 H L kvs→∀{x:Pr},x∈L→(cb kvs (aa3 (S (wordAt x.n)):Key)).isSome=true
 | _,_,.nil,_,h=>nomatch h
 | _,_,.cons (a:=a) (b:=b) (l₁:=l1) (l₂:=l2) r t,x,h=>by
  rw [← jc,abU]
  rcases aaN.mp h with e|h
  ·subst e
   rw [decide_eq_true r.1]
   rfl
  ·have ih:=yV t h
   rw [← jc] at ih
   rw [ih,Bool.or_true]
end Bk
namespace Bk
open PySem L2 cR
def JO (f:Fc):Prop:=a6 f.k=true∧f.as.length≤20000∧∀a∈f.as,aD a=true
def kU (x:Cs) (acc:List Cs):List Cs:=if great x=true then (if x∈acc then acc else acc++[x]) else acc
def eQ (l:List Cs) (acc:List Cs):List Cs:=l.foldl (fun acc x=>kU x acc) acc
theorem ik:∀(l acc:List Cs),once (l.filter great) acc=eQ l acc
 | [],acc=>rfl
 | x::r,acc=>by
  rw [ab1]
  by_cases h:great x=true
  ·rw [if_pos h]
   show once (r.filter great) (if x∈acc then acc else acc++[x])=eQ r (kU x acc)
   rw [ik r]
   unfold kU
   rw [if_pos h]
  ·rw [if_neg h,ik r]
   show _=eQ r (kU x acc)
   unfold kU
   rw [if_neg h]
theorem JP (fs:List Fc):opens fs=eQ (fs.flatMap (·.as)) []:=ik _ _
theorem r6 (a b acc:List Cs):eQ (a++b) acc=eQ b (eQ a acc):=acW ..
def xx (a:Cs):Key × V:=(aa3 (S a),.bl true)
theorem JQ (x:Cs) (acc:List Cs):putK (acc.map xx) (aa3 (S x):Key) (.bl true)=(if x∈acc then acc else acc++[x]).map xx:=by
 unfold putK
 have e:((acc.map xx).any fun kv=>decide (kv.1=(aa3 (S x):Key)))=decide (x∈acc):=by
  rw [ab0,abA,decide_eq_true_eq]
  constructor
  ·rintro⟨kv,hm,hk⟩
   obtain⟨a,ha,rfl⟩:=aay.mp hm
   have:=of_decide_eq_true hk
   rw [sY (ac8 this)] at ha
   exact ha
  ·intro h
   exact⟨xx x,aay.mpr ⟨x,h,rfl⟩,decide_eq_true rfl⟩
 rw [e]
 by_cases h:x∈acc
 ·rw [decide_eq_true h,if_pos rfl,if_pos h]
  rw [abz]
  refine adk fun a _=>?_
  show(if (xx a).1=_ then ((xx a).1,V.bl true) else xx a)=xx a
  split <;> rfl
 ·rw [decide_eq_false h,if_neg (by decide),if_neg h,aat]
  rfl
theorem He (x:Cs) (acc:List Cs):(kU x acc).length≤acc.length+1:=by
 unfold kU
 split
 ·split <;> simp
 ·omega
def Gf (K:aae):Sp:=fun vs H Q _=>∃(l:aaB) (us:List V) (fs:List Fc),vs=[.ref l]∧H l=some (.lst us)∧Paired (Fact K H) fs us∧fs.length≤20000∧(∀f∈fs,JO f)∧(fs.flatMap (·.as)).length≤20000∧∀v H',ai H H'→tf H H' v (opens fs)→Q v H'
def qa (n:Nat) (L:List Pr):Option Pr:=L.find? fun x=>x.n == n
def xy (n:Nat) (L:List Pr):List Fc:=match qa n L with
 | some ⟨_,_,.fs l⟩=>l
 | _=>[]
def Mf (L:List Pr):List Lk:=match qa 2 L with
 | some ⟨_,_,.lk l⟩=>l
 | _=>[]
def Mg (L:List Pr):List (Cs × Cs):=match qa 4 L with
 | some ⟨_,_,.pr l⟩=>l
 | _=>[]
def ue (title:Cs) (L:List Pr):Rl:=⟨title,xy 0 L,xy 1 L,Mf L,xy 3 L,Mg L⟩
theorem m7 {K:aae} {c:Cl} {H0 H:Hp}:∀{L:List Pr} {kvs:List (Key × V)} {n:Nat},dD K c H0 H L kvs→(∀x∈L,x.n<5)→n<5 →
  (qa n L=none∧cb kvs (aa3 (S (wordAt n)):Key)=none)∨∃x v,qa n L=some x∧x∈L∧x.n=n∧cb kvs (aa3 (S (wordAt n)):Key)=some v∧dC K c H0 H v x.p
 | _,_,n,.nil,_,_=>.inl ⟨rfl,rfl⟩
 | _,_,n,.cons (a:=a) (b:=b) (l₁:=l1) (l₂:=l2) r t,h5,hn=>by
  by_cases e:a.n=n
  ·refine .inr ⟨a,b.2,?_,aav,e,?_,r.2⟩
   ·unfold qa
    rw [abx,show(a.n == n)=true by simpa using e]
   ·exact pU (by rw [r.1,e])
  ·have hf:qa n (a::l1)=qa n l1:=by
    unfold qa
    rw [abx,show(a.n == n)=false by simpa using e]
   have hv:cb (b::l2) (aa3 (S (wordAt n)):Key)=cb l2 (aa3 (S (wordAt n)):Key):=pV (by
    rw [r.1]
    intro z
    exact e (vA (h5 a aav) hn (sY (ac8 z))))
   rw [hf,hv]
   rcases m7 (n:=n) t (fun x hx=>h5 x (aam _ hx)) hn with z|⟨x,v,z1,z2,z3⟩
   ·exact .inl z
   ·exact .inr ⟨x,v,z1,aam _ z2,z3⟩
theorem CJ {K:aae} {H0 H:Hp} {l:aaB} (h0:H0 l=none) (h:H l=some (.lst [])):Facts K H0 H (.ref l) []:=⟨l,[],rfl,h0,h,.nil⟩
theorem CK {c:Cl} {H0 H:Hp} {l:aaB} (h0:H0 l=none) (h:H l=some (.lst [])):Looks c H0 H (.ref l) []:=⟨l,[],rfl,h0,h,.nil⟩
theorem CL {K:aae} {H0 H:Hp} {l:aaB} (h0:H0 l=none) (h:H l=some (.lst [])):Pairs K H0 H (.ref l) []:=⟨l,[],rfl,h0,h,.nil⟩
theorem EJ {K:aae} {c:Cl} {H0 H:Hp} {L:List Pr} {kvs:List (Key × V)} {n:Nat} {l:aaB} (pa:dD K c H0 H L kvs) (h5:∀x∈L,x.n<5) (hok:∀x∈L,lN x.n x.ps x.p) (hn:n=0∨n=1∨n=3) (h0:H0 l=none) (h:H l=some (.lst [])) :
  Facts K H0 H ((cb kvs (aa3 (S (wordAt n)):Key)).getD (.ref l)) (xy n L):=by
 rcases m7 (n:=n) pa h5 (by omega) with⟨z1,z2⟩|⟨⟨xn,xps,xp⟩,v,z1,z2,rfl,z4,z5⟩
 ·rw [z2]
  unfold xy
  rw [z1]
  exact CJ h0 h
 ·rw [z4]
  unfold xy
  rw [z1]
  have hP:=hok _ z2
  cases xp with
  | fs l=>exact z5
  | lk l=>cases hP;exact absurd (show 2=0∨2=1∨2=3 from hn) (by decide)
  | pr l=>cases hP;exact absurd (show 4=0∨4=1∨4=3 from hn) (by decide)
theorem Pq {K:aae} {c:Cl} {H0 H:Hp} {L:List Pr} {kvs:List (Key × V)} {l:aaB} (pa:dD K c H0 H L kvs) (h5:∀x∈L,x.n<5) (hok:∀x∈L,lN x.n x.ps x.p) (h0:H0 l=none) (h:H l=some (.lst [])) :
  Looks c H0 H ((cb kvs (aa3 (S (wordAt 2)):Key)).getD (.ref l)) (Mf L):=by
 rcases m7 (n:=2) pa h5 (by omega) with⟨z1,z2⟩|⟨⟨xn,xps,xp⟩,v,z1,z2,z3,z4,z5⟩
 ·rw [z2]
  unfold Mf
  rw [z1]
  exact CK h0 h
 ·rw [z4]
  unfold Mf
  rw [z1]
  have z3:xn=2:=z3
  subst z3
  have hP:=hok _ z2
  cases xp with
  | fs l=>cases hP with|fs hn _=>exact absurd (show 2=0∨2=1∨2=3 from hn) (by decide)
  | lk l=>exact z5
  | pr l=>cases hP
theorem Pu {K:aae} {c:Cl} {H0 H:Hp} {L:List Pr} {kvs:List (Key × V)} {l:aaB} (pa:dD K c H0 H L kvs) (h5:∀x∈L,x.n<5) (hok:∀x∈L,lN x.n x.ps x.p) (h0:H0 l=none) (h:H l=some (.lst [])) :
  Pairs K H0 H ((cb kvs (aa3 (S (wordAt 4)):Key)).getD (.ref l)) (Mg L):=by
 rcases m7 (n:=4) pa h5 (by omega) with⟨z1,z2⟩|⟨⟨xn,xps,xp⟩,v,z1,z2,z3,z4,z5⟩
 ·rw [z2]
  unfold Mg
  rw [z1]
  exact CL h0 h
 ·rw [z4]
  unfold Mg
  rw [z1]
  have z3:xn=4:=z3
  subst z3
  have hP:=hok _ z2
  cases xp with
  | fs l=>cases hP with|fs hn _=>exact absurd (show 4=0∨4=1∨4=3 from hn) (by decide)
  | lk l=>cases hP
  | pr l=>exact z5
structure z7 (K:aae) (C:aaB):Prop where
 cl:Ec K C
 n1:da K C "title"
 n2:da K C "taken"
 n3:da K C "kept"
 n4:da K C "looks"
 n5:da K C "given"
 n6:da K C "told"
 n7:da K C "names"
structure Pw (K:aae) (C:aaB):Prop where
 cl:Ec K C
 n1:da K C "kinds"
 n2:da K C "rules"
structure Mh (r:Rl):Prop where
 heads:∀f∈r.take++r.keep,JO f
 few:(r.take++r.keep).length≤20000
 WC:((r.take++r.keep).flatMap (·.as)).length≤20000
def uG (K:aae) (c:Cl):Sp:=fun vs H Q _=>∃(H0:Hp) (p dx d:aaB) (title:Cs) (L:List Pr) (kvs:List (Key × V)) (u0:HO),vs=[.ref p,tx title,.ref d]∧H p=some (.ins c.rule dx [])∧H0 p=some u0∧(∀b,H b=none→H0 b=none)∧H d=some (.dK kvs) ∧
 dD K c H0 H L kvs∧(∀x∈L,x.n<5)∧(∀x∈L,lN x.n x.ps x.p)∧Mh (ue title L) ∧
 ∀H' fs,H' p=some (.ins c.rule dx fs)→pY K c H0 H' (ue title L) fs→(∀b o,H b=some o→b≠p→H' b=some o)→Q .cB H'
def uH (K:aae) (c:Cl):Sp:=fun vs H Q _=>∃(p dx:aaB) (k r:V),vs=[.ref p,k,r]∧H p=some (.ins c.book dx [])∧∀H' fs,H' p=some (.ins c.book dx fs)→fs.lookup ("kinds":Str)=some k→fs.lookup ("rules":Str)=some r→(∀b o,H b=some o→b≠p→H' b=some o)→Q .cB H'
def z8 (K:aae) (c:Cl):Sp:=fun vs H Q _=>∃(H0:Hp) (v:V) (r:Rl),vs=[v]∧ij K c H0 H r v∧Q (.bl (decide (r.take=[]))) H
theorem a7 {α β:Type} {R:α→β→Prop}:∀{a1 a2:List α} {b1 b2:List β},Paired R a1 b1→Paired R a2 b2→Paired R (a1++a2) (b1++b2)
 | _,_,_,_,.nil,h=>h
 | _,_,_,_,.cons r t,h=>.cons r (a7 t h)
end Bk
namespace Bk
open PySem L2 cR
theorem jF (a:Cs) (l:List Cs):Ln (tx a) (l.map tx)=decide (a∈l):=by
 unfold Ln
 rw [List.any_map,ab0,abA,decide_eq_true_eq]
 constructor
 ·rintro⟨x,hx,h⟩
  have e:(S x == S a)=true:=h
  rw [sY (eq_of_beq e)] at hx
  exact hx
 ·intro h
  exact⟨a,h,(show(S a == S a)=true from beq_self_eq_true _)⟩
theorem gJ (l:List Cs):(l.map tx).all i6=true:=by
 rw [aeT,aa4]
 intro x _
 rfl
theorem gF {tt:TT} {te:TE} {bu:List Nat} {σ:St} {H1:Hp} {Q:VK} {K:aae} {a:aaB} {xs:List V} {D:aaB} {β γ:Type} (bs:List β) (kp:β→Bool) (g:β→γ) (Out:Hp→Hp→γ→V→Prop)
  (keep:∀H0 H H' b y,Kp H0 H H'→Out H0 H b y→Out H0 H' b y) (cG:∀H0 H2 H b y,(∀c,H2 c=none→H0 c=none)→Out H2 H b y→Out H0 H b y)
  (hn:xs.length<aaj) (xr:H1 D=none) (hl:aL K H1 a xs) (hb:bs.length=xs.length)
  (ht:∀(i:Nat) x b H' R,xs[i]?=some x→bs[i]?=some b→ai H1 H'→(∀ig,ai H' ig→R (kp b) ig)→tt (cV σ (some x) bu) H' R)
  (he:∀(i:Nat) x b H' R,xs[i]?=some x→bs[i]?=some b→kp b=true→ai H1 H'→(∀y ig,ai H' ig→Out H' ig (g b) y→R y ig)→te (cV σ (some x) bu) H' R)
  (hd:∀H' ys,ai H1 H'→H' D=some (.lst ys)→Paired (Out H1 H') ((bs.filter kp).map g) ys→Q (.ref D) H'):lE tt te bu σ Q (IJ K a) H1 D:=by
 have s0:ai H1 (upd H1 D (.lst [])):=aj xr _
 have Pp:∀c,upd H1 D (.lst []) c=none→H1 c=none:=fun c h=>s0.free h
 refine i9 (K:=K) (a:=a) (xs:=xs) hn (fun i ys H'=>ai H1 H'∧H' D=some (.lst ys)∧(∀c,H' c=none→upd H1 D (.lst []) c=none)∧Paired (Out (upd H1 D (.lst [])) H') (((bs.take i).filter kp).map g) ys) ⟨s0,ae,fun _ h=>h,.nil⟩
  (fun i ys H' p=>p.1.seq hl) (fun i ys H' p=>⟨p.2.1,?_⟩) (fun i ys H' hi p=>?_) (fun ys H' p=>?_)
 ·have z:=aao p.2.2.2
  rw [Lm9] at z
  have z2:=abK kp (bs.take i)
  rw [aaA] at z2
  omega
 ·have hx:xs.getD i .cB=xs[i]:=by rw [Gd9,Ge9 hi];rfl
  rw [hx]
  have dw:i<bs.length:=by omega
  refine ht i xs[i] bs[i] H' _ (Ge9 hi) (Ge9 dw) p.1 fun H1' Px=>?_
  have Po:=Px _ _ p.2.1
  have Py:∀c,H1' c=none→upd H1 D (.lst []) c=none:=fun c h=>p.2.2.1 c (Px.free h)
  cases hk:kp bs[i] with
  | false =>
   refine bo ⟨ai.trans p.1 Px,Po,Py,?_⟩
   rw [aak dw,abp]
   have e:[bs[i]].filter kp=[]:=by simp [hk]
   rw [e,aaZ]
   exact L2.Paired.d9 p.2.2.2 fun b v z=>keep _ _ _ _ _ (Kp.same Px) z
  | true =>
   refine cL ?_
   refine he i xs[i] bs[i] H1' _ (Ge9 hi) (Ge9 dw) hk (ai.trans p.1 Px) fun y H2 s2 ho=>?_
   have kO:=s2 _ _ Po
   have NO:Kp (upd H1 D (.lst [])) H2 (upd H2 D (.lst (ys++[y]))):=Kp.upd ae kO (by intro xs z;cases z) (by intro o u z;cases z)
   refine⟨kO,ai.aR (ai.trans (ai.trans p.1 Px) s2) xr _,ae,fun c h=>?_,?_⟩
   ·exact Py c (s2.free (NO.vq c h))
   ·rw [aak dw,abp]
    have e:[bs[i]].filter kp=[bs[i]]:=by simp [hk]
    rw [e,aat]
    refine(L2.Paired.d9 p.2.2.2 fun b v z=>keep _ _ _ _ _ NO (keep _ _ _ _ _ (Kp.same (ai.trans Px s2)) z)).snoc ?_
    exact keep _ _ _ _ _ NO (cG _ _ _ _ _ Py ho)
 ·have z:=p.2.2.2
  rw [abm (by omega)] at z
  exact hd H' ys p.1 p.2.1 (L2.Paired.d9 z fun b v h=>cG _ _ _ _ _ (fun c h=>by
   by_cases e:c=D
   ·rw [e];exact xr
   ·exact Pp c h) h)
theorem cq:∀{l:List Cs} {ys:List V},Paired (fun b y=>y=tx b) l ys→ys=l.map tx
 | _,_,.nil=>rfl
 | _,_,.cons r t=>by rw [r,cq t];rfl
def Sj (k:Kd):Prop:=a6 k.n=true∧k.c≤4
structure oE (K:aae) (c:Cl) (H0 H:Hp) (lk lr:aaB) (ks:List Kd) (rs:List Rl) (kvs rK:List V):Prop where
 hk:H lk=some (.lst kvs)
 pk:Paired (Kind K H) ks kvs
 hr:H lr=some (.lst rK)
 pr:Paired (ij K c H0 H) rs rK
 ne:lk≠lr
 ok:∃u,H0 lk=some u
 or:∃u,H0 lr=some u
 vq:∀b,H b=none→H0 b=none
 fk:ks.length≤10000
 fr:rs.length≤10000
def JR (K:aae) (c:Cl):Sp:=fun vs H Q _=>∃(H0:Hp) (lk lr:aaB) (ks:List Kd) (rs:List Rl) (kvs rK:List V) (p:Cs),vs=[.ref lk,.ref lr,tx p]∧oE K c H0 H lk lr ks rs kvs rK∧ks.length<10000∧rs.length<10000∧p.length≤20000∧p.all (uE eE)=true ∧
  ((∃k:Kd,toks p=vw k∧Sj k∧k.n∉ks.map (·.n)∧∀v H',(∀b o,b≠lk→H b=some o→H' b=some o)→oE K c H0 H' lk lr (ks++[k]) rs (kvs++[v]) rK→Q .cB H') ∨
   (∃(title:Cs) (L:List Pr),toks p=gI title L∧Gd title L∧Mh (ue title L)∧title∉rs.map (·.title)∧∀v H',(∀b o,b≠lr→H b=some o→H' b=some o)→oE K c H0 H' lk lr ks (rs++[ue title L]) kvs (rK++[v])→Q .cB H'))
theorem ij.cG {K:aae} {c:Cl} {H0 H1 H:Hp} {r:Rl} {v:V} (d:∀b,H1 b=none→H0 b=none) (h:ij K c H1 H r v):ij K c H0 H r v:=by
 obtain⟨a,dx,fs,e,n,h1,⟨t1,⟨v2,e2,h2⟩,⟨v3,e3,h3⟩,⟨v4,e4,h4⟩,⟨v5,e5,h5⟩,⟨v6,e6,h6⟩,⟨v7,e7,h7⟩,h8⟩⟩:=h
 refine⟨a,dx,fs,e,d a n,h1,⟨t1,⟨v2,e2,xh.cG d h2⟩,⟨v3,e3,xh.cG d h3⟩,⟨v4,e4,Looks.cG d h4⟩,⟨v5,e5,xh.cG d h5⟩,⟨v6,e6,xh.cG d h6⟩,⟨v7,e7,?_⟩,h8⟩⟩
 obtain⟨l,el,nl,hl⟩:=h7
 exact⟨l,el,d l nl,hl⟩
theorem dC.apart {K:aae} {c:Cl} {H0 H:Hp} {v:V} {x:aaB} {o:HO} (hx:H x=none) {p:Pt} (h:dC K c H0 H v p):dC K c (upd H0 x o) H v p:=by
 have key:∀b u,H b=some u→H0 b=none→upd H0 x o b=none:=fun b u e n=>by rw [aH (aP e hx)];exact n
 cases p with
 | fs l =>
  obtain⟨l,vs,e,n,h1,h2⟩:=h
  exact⟨l,vs,e,key _ _ h1 n,h1,h2⟩
 | pr l =>
  obtain⟨l,vs,e,n,h1,h2⟩:=h
  exact⟨l,vs,e,key _ _ h1 n,h1,h2⟩
 | lk l =>
  obtain⟨l,vs,e,n,h1,h2⟩:=h
  exact⟨l,vs,e,key _ _ h1 n,h1,L2.Paired.d9 h2 fun k y z=>by
   obtain⟨a,dx,fs,e,n,z1,z2⟩:=z
   exact⟨a,dx,fs,e,key _ _ z1 n,z1,z2⟩⟩
theorem pY.cG {K:aae} {c:Cl} {H0 H1 H:Hp} {r:Rl} {fs:List (Str × V)} (d:∀b,H1 b=none→H0 b=none) (h:pY K c H1 H r fs):pY K c H0 H r fs:=by
 obtain⟨t1,⟨v2,e2,h2⟩,⟨v3,e3,h3⟩,⟨v4,e4,h4⟩,⟨v5,e5,h5⟩,⟨v6,e6,h6⟩,⟨v7,e7,h7⟩,h8⟩:=h
 refine⟨t1,⟨v2,e2,xh.cG d h2⟩,⟨v3,e3,xh.cG d h3⟩,⟨v4,e4,Looks.cG d h4⟩,⟨v5,e5,xh.cG d h5⟩,⟨v6,e6,xh.cG d h6⟩,⟨v7,e7,?_⟩,h8⟩
 obtain⟨l,el,nl,hl⟩:=h7
 exact⟨l,el,d l nl,hl⟩
def de (r:Rl):List Cs:=(r.aO.flatMap fun k=>[k.l,k.r])++((r.put.flatMap (·.as))++(r.tell.flatMap fun p=>[p.1,p.2]))
def JS (K:aae) (c:Cl):Sp:=fun vs H Q _=>∃(H0:Hp) (v:V) (r:Rl),vs=[v]∧ij K c H0 H r v∧(de r).length≤20000∧∀u H',ai H H'→tf H H' u (de r)→Q u H'
theorem qb:∀(ps acc:List (Key × V)),((acc++ps).map (·.1)).Nodup→iB acc ps=acc++ps
 | [],acc,_=>by show acc=acc++[];rw [aaZ]
 | p::r,acc,h=>by
  have hn:cb acc p.1=none:=yT fun q hq e=>by
   rw [aat,aa5,acu] at h
   exact h.2.2 q.1 (aay.mpr ⟨q,hq,rfl⟩) p.1 aav e
  have ih:=qb r (acc++[p]) (by rw [aaT];exact h)
  show iB (putK acc p.1 p.2) r=_
  rw [Ct _ hn,ih,aaT]
  rfl
theorem r9 {α:Type} (g:α→List Cs) (l:List α) (i:Nat):((l.take i).flatMap g).length≤(l.flatMap g).length:=by
 have e:l.flatMap g=(l.take i).flatMap g++(l.drop i).flatMap g:=by rw [← abq,ac3]
 rw [e,aag]
 omega
def qc (k:Kd):Key × V:=(aa3 (S k.n),.int k.c)
theorem tu {K:aae} {H:Hp}:∀{ks:List Kd} {ys:List V},Paired (fun(k:Kd) (y:V)=>∃t,y=.ref t∧bT K H t [tx k.n,.int k.c]) ks ys→F0 K H (ks.map qc) ys
 | _,_,.nil=>.nil
 | _,_,.cons r t=>.cons r (tu t)
theorem CM {ks:List Kd} (h:(ks.map (·.n)).Nodup):((ks.map qc).map (·.1)).Nodup:=by
 rw [abz]
 have e:((fun p:Key × V=>p.1) ∘ qc)=(fun n:Cs=>(aa3 (S n):Key)) ∘ (fun k:Kd=>k.n):=rfl
 rw [e,← abz]
 exact List.pairwise_map.mpr (List.Pairwise.imp (fun hne e=>hne (sY (ac8 e))) h)
end Bk
namespace Bk
open PySem L2 cR
inductive It where
 | kind (k:Kd)
 | rule (title:Cs) (L:List Pr)
def It.ps:It→List Cs
 | .kind k=>vw k
 | .rule t L=>gI t L
def fo:List It→List Kd
 | []=>[]
 | .kind k::r=>k::fo r
 | .rule _ _::r=>fo r
def eT:List It→List Rl
 | []=>[]
 | .kind _::r=>eT r
 | .rule t L::r=>ue t L::eT r
theorem jg (a b:List It):fo (a++b)=fo a++fo b:=by
 induction a with
 | nil=>rfl
 | cons x r ih=>cases x <;> simp [fo,ih]
theorem jh (a b:List It):eT (a++b)=eT a++eT b:=by
 induction a with
 | nil=>rfl
 | cons x r ih=>cases x <;> simp [eT,ih]
def Sk:It→Prop
 | .kind k=>Sj k
 | .rule t L=>Gd t L∧Mh (ue t L)
theorem vB:∀(a:List It),(fo a).length≤a.length
 | []=>aaz _
 | .kind k::r=>by show(fo r).length+1≤_;have:=vB r;rw [aar];omega
 | .rule t L::r=>by show(fo r).length≤_;have:=vB r;rw [aar];omega
theorem vC:∀(a:List It),(eT a).length≤a.length
 | []=>aaz _
 | .kind k::r=>by show(eT r).length≤_;have:=vC r;rw [aar];omega
 | .rule t L::r=>by show(eT r).length+1≤_;have:=vC r;rw [aar];omega
end Bk
namespace L2
open PySem PySem.Spec PyProof.Rows
section
variable {X:Cx}
end
end L2
namespace L2
open PySem PySem.Spec PyProof.Rows
end L2
namespace Bk
open PySem L2 cR
abbrev uf:Str:="abcdefghijklmnopqrstuvwxyz0123456789ABCDEFGHIJKLMNOPQRSTUVWXYZ"
abbrev Sl:Str:="abcdefghijklmnopqrstuvwxyz0123456789"
theorem di (a b:List Nat):S a++S b=S (a++b):=by
 rw [← vp (S a++S b),aby,bH,bH]
theorem Pz (cs:List Nat):adz (aaf "") (cs.map fun c=>S [c])=S cs:=by
 show acX (aaf "") _=_
 rw [acs]
 have e:=PyProof.Rows.join_nil_signs (S cs)
 unfold PyProof.Rows.signs at e
 rw [bH] at e
 exact e
theorem dk:∀{as:List (List Nat)} {B:Nat},(∀a∈as,a.length≤B)→((as.map S).map (·.length)).sum≤as.length * B
 | [],_,_=>by simp
 | a::r,B,h=>by
  have z:=h a (by simp)
  have ih:=dk (as:=r) (B:=B) fun x hx=>h x (aam _ hx)
  rw [aa5,aa5,acR,aS,aar,adT]
  omega
theorem JT:uf.cps.toList.all bp=true:=by decide +kernel
theorem qd:uf.length=62:=by decide +kernel
def EK (K:aae):Sp:=fun vs H Q _=>∃(a:aaB) (ns:List Int) (k:Int),vs=[.ref a,.int k]∧aL K H a (ns.map V.int)∧0≤k∧∀v:Int,Q (.int v) H
def tD:Sp:=fun vs H Q _=>∃c k:Int,vs=[.int c,.int k]∧0≤k∧k≤100∧∀(v:Int) (H':Hp),ai H H'→0≤v→Q (.int v) H'
def Good (fs:List Nat) (z:List Nat):Prop:=aD z=true∧z.headD 0∈fs
def uI:Sp:=fun vs H Q _=>∃(c:Int) (n:Nat) (fs:List Nat),vs=[.int c,.int n,tx fs]∧n≤10∧10≤fs.length∧fs.length≤62∧fs.all bp=true∧fs.Nodup ∧
 ∀(l:aaB) (zs:List (List Nat)) (H':Hp),ai H H'→H l=none→H' l=some (.lst (zs.map tx))→zs.length=n→(∀z∈zs,Good fs z)→zs.Nodup→Q (.ref l) H'
def oF (fs:List Nat):Sp:=fun vs H Q _=>∃(c:Int) (n:Nat),vs=[.int c,.int n]∧n≤10 ∧
 ∀(l:aaB) (zs:List (List Nat)) (H':Hp),ai H H'→H l=none→H' l=some (.lst (zs.map tx))→zs.length=n→(∀z∈zs,Good fs z)→zs.Nodup→Q (.ref l) H'
def Gg (K:aae):Sp:=fun vs H Q _=>∃(a:aaB) (ns:List Int),vs=[.ref a]∧aL K H a (ns.map V.int)∧ns.length≤63∧∀H',Q (.bl true) H'
theorem z9 {fs:List Nat} {c:Nat} {r:List Nat} (hc:c∈fs) (hf:fs.all bp=true) (hr:r.all bp=true) (hl:r.length≤11):Good fs ([c]++r):=by
 refine⟨?_,hc⟩
 show aD (c::r)=true
 unfold aD
 rw [aa4] at hf
 have z:(c::r).all bp=true:=by rw [abl,hf c hc,hr];rfl
 rw [z]
 simp
 omega
theorem sign_of {x:Str} {i:Int} (h0:0≤i) (h1:i<x.length):∃c,lu x.cps.toList i=some c∧c∈x.cps.toList:=by
 have hl:=lJ x
 exact⟨_,vr h0 h1,abB (getD_get (by omega))⟩
theorem vD {T:List Nat} {n:Nat} (h:n≤T.length):adg (S T) none (some (n:Int))=S (T.take n):=by
 have e:=Ji (z:=S T) (j:=(n:Int)) (by omega) (by rw [aS];omega)
 rw [← vp (adg (S T) none (some (n:Int))),e,bH,show((n:Int)).toNat=n by omega]
theorem fX {α:Type} {n:Nat} {g:Nat→α} (h:∀i j,i<n→j<n→g i=g j→i=j):((abC n).map g).Nodup:=by
 rw [List.nodup_iff_pairwise_ne,List.pairwise_map]
 refine List.Pairwise.imp_of_mem ?_ (List.nodup_range (n:=n))
 intro a b ha hb hne e
 exact hne (h a b (acv.mp ha) (acv.mp hb) e)
theorem vE {l:List Nat} (h:l.Nodup) {i j:Nat} (hi:i<l.length) (hj:j<l.length) (e:l.getD i 0=l.getD j 0):i=j:=by
 rw [Gd9,Gd9,Ge9 hi,Ge9 hj] at e
 have e:l[i]=l[j]:=e
 have p:=List.pairwise_iff_getElem.mp h
 rcases Nat.lt_trichotomy i j with z|z|z
 ·exact absurd e (p i j hi hj z)
 ·exact z
 ·exact absurd e.symm (p j i hj hi z)
theorem Gh {a:Int} {m i j:Nat} (hi:i<m) (hj:j<m) (e:((a+(0+(i:Int))) % (m:Int)).toNat=((a+(0+(j:Int))) % (m:Int)).toNat):i=j:=by
 have m0:(0:Int)<m:=by omega
 have h1:=adj (a+(0+(i:Int))) (b:=(m:Int)) (by omega)
 have h2:=adj (a+(0+(j:Int))) (b:=(m:Int)) (by omega)
 have e':(a+(0+(i:Int))) % (m:Int)=(a+(0+(j:Int))) % (m:Int):=by omega
 have e3:((i:Int) - (j:Int)) % (m:Int)=0:=by
  have z:=Int.emod_eq_emod_iff_emod_sub_eq_zero.mp e'
  have z2:a+(0+(i:Int)) - (a+(0+(j:Int)))=(i:Int) - (j:Int):=by omega
  rw [z2] at z
  exact z
 obtain⟨k,hk⟩:=Int.dvd_of_emod_eq_zero e3
 have PB:k=0:=by
  rcases Int.lt_trichotomy k 0 with h|h|h
  ·have:(m:Int) * k≤-(m:Int):=by
    have:=ac4 (show k≤-1 by omega) (Int.le_of_lt m0)
    omega
   omega
  ·exact h
  ·have:(m:Int)≤(m:Int) * k:=by
    have:=ac4 (show 1≤k by omega) (Int.le_of_lt m0)
    omega
   omega
 rw [PB] at hk
 omega
theorem JU (ns:List Int) (lo hi:Option Int):∃ms:List Int,fQ (ns.map V.int) lo hi=ms.map V.int∧ms.length≤ns.length:=by
 refine⟨(ns.drop (HT.dQ ns.length 0 lo)).take (HT.dQ ns.length ns.length hi - HT.dQ ns.length 0 lo),?_,?_⟩
 ·unfold fQ
  rw [Lm9,aeH,List.map_drop]
 ·rw [aaA,aba]
  omega
theorem lO {K:aae} {t:aai}:abM K t t=some true:=by
 unfold abM
 rw [if_pos (beq_self_eq_true t)]
end Bk
namespace Bk
open PySem L2 cR
def fS (c:Nat):List Cs→Cs
 | []=>[]
 | [a]=>a
 | a::r=>a++c::fS c r
theorem yW (c:Nat):∀(ls:List Str),(ac0 ⟨#[c]⟩ ls).cps.toList=fS c (ls.map fun s=>s.cps.toList)
 | []=>rfl
 | [a]=>rfl
 | a::b::r=>by
  have ih:=yW c (b::r)
  show((a++(⟨#[c]⟩:Str))++ac0 ⟨#[c]⟩ (b::r)).cps.toList=_
  rw [aby,aby,ih]
  show(a.cps.toList++[c])++_=a.cps.toList++c::_
  simp
theorem qe:∀ls,fS 10 ls=cH ls
 | []=>rfl
 | [a]=>rfl
 | a::b::r=>by
  show a++10::fS 10 (b::r)=a++10::cH (b::r)
  rw [qe (b::r)]
theorem il (c:Nat) (ls:List Cs):adz ⟨#[c]⟩ (ls.map S)=S (fS c ls):=by
 show acX ⟨#[c]⟩ _=_
 rw [acs,← vp (ac0 ⟨#[c]⟩ (ls.map S)),yW,abz]
 have e:((fun s:Str=>s.cps.toList) ∘ S)=id:=by
  funext p
  exact bH p
 rw [e,acr]
theorem CN:∀(ls:List Cs) (B:Nat),(∀l∈ls,l.length≤B)→(cH ls).length≤ls.length * (B+1)
 | [],_,_=>by simp [cH]
 | [a],B,h=>by
  have:=h a (by simp)
  show a.length≤1 * (B+1)
  omega
 | a::b::r,B,h=>by
  have ih:=CN (b::r) B fun l hl=>h l (aam _ hl)
  have h1:=h a (by simp)
  show(a++10::cH (b::r)).length≤((b::r).length+1) * (B+1)
  rw [aag,aar,adT]
  omega
def qf (k:Kd) (a b c d:Nat):Cs:=abL a 32++((if k.l=true then br else bq)++(abL b 32++(k.n++(abL c 32++([48+k.c]++abL d 32)))))
def az (k:Kd):Cs:=(if k.l=true then br else bq)++(32::(k.n++(32::[48+k.c])))
theorem EL (k:Kd):az k=qf k 0 1 1 0:=by
 unfold az qf
 simp [abL]
theorem JV (b:Bool):(if b=true then br else bq).all bp=true∧(if b=true then br else bq).length=7:=by cases b <;> exact⟨by decide +kernel,rfl⟩
theorem JW {c:Nat} (h:c≤4):bp (48+c)=true:=by
 rcases(by omega:c=0∨c=1∨c=2∨c=3∨c=4) with e|e|e|e|e <;> subst e <;> decide +kernel
theorem CO {p:Cs} (h:a6 p=true):p.all bp=true:=by
 unfold a6 aD at h
 simp only [aaW] at h
 exact h.1.2.2
theorem yX {n:Nat} (h:1≤n) (r:Cs):nN (abL n 32++r):=by
 cases n with
 | zero=>omega
 | succ n=>exact pW
theorem EM {k:Kd} {a b c d:Nat} (hn:a6 k.n=true) (hc:k.c≤4) (hb:1≤b) (Sm:1≤c):toks (qf k a b c d)=vw k:=by
 have h1:=JV k.l
 have hl:=dW hn
 unfold qf vw
 rw [fR,d5 h1.1 (fun z=>by rw [z] at h1;exact absurd h1.2 (by decide)) (yX hb _),fR,d5 (CO hn) (fun z=>by rw [z] at hl;simp at hl) (yX Sm _),fR,
  d5 (n:=[48+k.c]) (by simp [JW hc]) (by simp) (by have z:=zX d (r:=[]) trivial;rwa [aaZ] at z)]
 have z:=fR d []
 rw [aaZ] at z
 rw [z]
 rfl
theorem JX {m:Str} {c:Nat} (h:bp c=true):uE m c=true:=by
 unfold uE
 rw [h]
 rfl
theorem uJ {f:Nat→Bool} (h:f 32=true) (n:Nat):(abL n 32).all f=true:=by
 rw [aa4]
 intro x hx
 rw [(List.mem_replicate.mp hx).2]
 exact h
theorem yY {f:Nat→Bool} (U1:f 32=true) (Hf:∀c,bp c=true→f c=true) {k:Kd} {a b c d:Nat} (hn:a6 k.n=true) (hc:k.c≤4):(qf k a b c d).all f=true:=by
 have up:∀p:Cs,p.all bp=true→p.all f=true:=fun p h=>by
  rw [aa4] at h ⊢
  exact fun x hx=>Hf x (h x hx)
 unfold qf
 rw [abc,abc,abc,abc,abc,abc,uJ U1,uJ U1,uJ U1,uJ U1,up _ (JV k.l).1,up _ (CO hn),up [48+k.c] (by simp [JW hc])]
 rfl
theorem JY {k:Kd} {a b c d:Nat} (hn:a6 k.n=true) (hc:k.c≤4):10∉qf k a b c d:=by
 have z:=yY (f:=fun x=>!(x == 10)) rfl (fun c h=>by
  cases e:(c == 10) with
  | false=>rfl
  | true =>
   rw [beq_iff_eq.mp e] at h
   exact absurd h (by decide +kernel)) (k:=k) (a:=a) (b:=b) (c:=c) (d:=d) hn hc
 rw [aa4] at z
 intro h
 exact absurd (z 10 h) (by decide)
theorem JZ {n:Nat} {r:Cs}:(abL n 32++r).dropWhile (· == 32)=r.dropWhile (· == 32):=by
 induction n with
 | zero=>rfl
 | succ n ih=>rw [aeA,acy,acB,if_pos (by decide)];exact ih
theorem EN {k:Kd} {a b c d:Nat}:told (qf k a b c d)=true:=by
 unfold told qf
 rw [JZ]
 cases k.l <;> rfl
theorem Aa {c:Nat} (h:c≤4):(aaf (toString (c:Int)))=S [48+c]:=by
 rcases(by omega:c=0∨c=1∨c=2∨c=3∨c=4) with e|e|e|e|e <;> subst e <;> decide +kernel
theorem Ab {c:Nat} (h:c≤4):(c:Int).natAbs.log2<1920:=by
 rcases(by omega:c=0∨c=1∨c=2∨c=3∨c=4) with e|e|e|e|e <;> subst e <;> decide +kernel
end Bk
namespace Bk
open PySem L2 cR
def uK (K:aae):Sp:=fun vs H Q _=>∃v k,vs=[v]∧Kind K H k v∧k.n.length≤12∧k.c≤4∧∀H',ai H H'→Q (tx (az k)) H'
theorem qg {k:Kd} (h:k.n.length≤12):(az k).length≤22:=by
 unfold az
 have:=(JV k.l).2
 simp only [aag,aar,abb]
 omega
end Bk
namespace Bk
open PySem L2 cR
theorem fY {p:Cs} {z:Str} {t:Tok} (e:z=S p):RelV (tx p) (abN z t):=⟨t,by rw [e]⟩
end Bk
namespace L2
open PySem PySem.Spec PyProof.Rows
section
variable {X:Cx} {pins:List (aaB × Obj)} {σ:St} {H:Hp} {s:aan} {h':Heap}
end
end L2
namespace L2
open PySem PySem.Spec PyProof.Rows
section
variable {prog:aaS} {w:abg} {A:abi} {E:aai→aan→Prop} {s:aan}
end
section
variable {X:Cx}
end
end L2
namespace L2
open PySem PySem.Spec PyProof.Rows
section
variable {X:Cx}
end
end L2
namespace L2
open PySem PySem.Spec PyProof.Rows
section
variable {X:Cx}
end
end L2
namespace L2
open PySem PySem.Spec PyProof.Rows
section
variable {X:Cx}
end
end L2
namespace L2
open PySem PySem.Spec PyProof.Rows
section
variable {X:Cx}
end
end L2
namespace L2
open PySem PySem.Spec PyProof.Rows
section
variable {X:Cx} {pins:List (aaB × Obj)} {σ:St}
end
end L2
namespace L2
open PySem PySem.Spec PyProof.Rows
section
variable {X:Cx}
end
end L2
namespace L2
open PySem PySem.Spec PyProof.Rows
theorem CQ {X:Cx} {K:aae} (hK:X.K=K):d8 X (.type "list") (fun xs H Q=>∃p ys,xs=[.ref p]∧(aL K H p ys∨bT K H p ys)∧∀l,H l=none→Q (.ref l) (upd H l (.lst ys))):=by
 subst hK
 exact pN
end L2
namespace L2
open PySem PySem.W PyProof.Rows
structure WO (lt:Nat→Nat→Bool):Prop where
 ado:∀a b,lt a b=true→lt b a=false
 tr:∀a b c,lt b a=false→lt c b=false→lt c a=false
section
variable {lt:Nat→Nat→Bool} {n:Nat} (W:WO lt)
include W
end
end L2
namespace L2
open PySem PySem.W PySem.Calls PyProof.Rows
section
variable {prog:aaS} {w:abg} {A:abi} {E:aai→aan→Prop} {s:aan}
end
end L2
namespace L2
open PySem PySem.W PySem.Calls PyProof.Rows
inductive Tr where
 | int (i:Int)|str (x:Str)|tup (l:List Tr)
 deriving Inhabited
mutual
def Tr.toD:Tr→Dt
 | .int i=>.int i
 | .str x=>.str x
 | .tup l=>.tup (Tr.toDs l)
def Tr.toDs:List Tr→List Dt
 | []=>[]
 | a::r=>a.toD::Tr.toDs r
end
theorem toDs_length:∀(l:List Tr),(Tr.toDs l).length=l.length
 | []=>by unfold Tr.toDs;rfl
 | a::r=>by unfold Tr.toDs;simp [toDs_length r]
theorem toDs_get:∀(l:List Tr) (i:Nat) (h:i<l.length) (h':i<(Tr.toDs l).length),(Tr.toDs l)[i]=(l[i]).toD
 | a::r,0,_,_=>by simp [Tr.toDs]
 | a::r,i+1,h,h'=>by
  have:=toDs_get r i (by simpa using h) (by rw [toDs_length];simpa using h)
  simp only [Tr.toDs,List.getElem_cons_succ]
  exact this
end L2
namespace L2
open PySem PySem.W PySem.Calls PyProof.Rows
section
open PySem.SeqAt
open PySem.AutoSeq1 (wpAny_loadPart')
open PySem.MeetsSeq PySem.MeetsSeq2 PySem.MeetsSeq3
end
end L2
namespace L2
open PySem PySem.W PySem.Calls PyProof.Rows
end L2
namespace L2
open PySem PySem.W PySem.Calls PyProof.Rows
section
variable {prog:aaS} {w:abg} {A:abi} {E:aai→aan→Prop} {s:aan} {Q:Bool→aan→Prop}
end
def Ts (K:aae) (H:Hp) (ts:List Tr) (ys:List V):Prop:=ts.length=ys.length∧∀(i:Nat) (h1:i<ts.length) (h2:i<ys.length),uc K H (ts[i]).toD ys[i]
section
variable {X:Cx}
end
end L2
namespace L2
open PySem PySem.Spec PyProof.Rows
section
variable {X:Cx} {pins:List (aaB × Obj)} {σ:St} {H H':Hp} {s:aan}
end
section
variable {X:Cx} {o e f:Expr} {td ty tx:TE} {apos cpos:Pos}
end
end L2
namespace fq
open PySem
end fq
namespace fq
end fq
namespace fq
open PySem
end fq
namespace fq
open PySem
end fq
namespace fq
open PySem
end fq
namespace fq
open PySem
end fq
namespace fq
open PySem
end fq
namespace fq
open PySem
section
variable {prog:aaS} {w:abg} {A:abi} {E:aai→aan→Prop} {s:aan} {a:aaB} {o:Obj} {es:Array (Int × aai)} {ep:Nat} {t:SetTable} {x:aai} {h:Int} {eqv:Nat→Bool} {Q:SetFound→aan→Prop}
end
end fq
namespace fq
open PySem
section
variable {prog:aaS} {w:abg} {A:abi} {E:aai→aan→Prop} {s:aan} {a:aaB} {es:Array (Int × aai)} {x:aai} {h:Int} {eqv:Nat→Bool} {l:Bool}
end
end fq
namespace L2
open PySem PySem.Spec PyProof.Rows
theorem J0 {X:Cx} {pins:List (aaB × Obj)} {σ:St} {H:Hp} {s:aan} (I:Inv X pins σ H s) {l:List Tr} {x:V} {u:aai} (h:uc X.K H (Tr.tup l).toD x) (r:RelV x u) :
  ∃(p:aaB) (ys:List V) (its:List aai),u=.ref p∧IsTup s.heap p its.toArray∧Vals ys its∧Ts X.K H l ys:=by
 simp only [Tr.toD] at h
 cases h with
 | @tup ds xs p g e rr =>
  cases r
  obtain⟨its,r1,p1,_⟩:=I.tuple g
  have kl:=toDs_length l
  refine⟨p,xs,its,rfl,p1,r1,by omega,fun i h1 h2=>?_⟩
  have z:=rr i (by omega) h2
  rw [toDs_get l i h1] at z
  exact z
end L2
namespace L2
open PySem PySem.Spec PyProof.Rows
section
variable {X:Cx} {pins:List (aaB × Obj)} {σ:St} {H:Hp} {s:aan}
end
end L2
namespace L2
open PySem PySem.Spec PyProof.Rows
section
variable {X:Cx} {pins:List (aaB × Obj)} {σ:St} {H:Hp} {s:aan}
end
end L2
namespace L2
open PySem PySem.Spec PyProof.Rows fq
section
variable {X:Cx} {pins:List (aaB × Obj)} {σ:St} {H:Hp} {s:aan} {a:aaB} {es:Array (Int × aai)} {tr:List Tr} {t:Tr} {x:V} {u:aai} {l:Bool}
end
end L2
namespace L2
open PySem PySem.Spec PyProof.Rows fq
section
variable {X:Cx} {pins:List (aaB × Obj)} {σ:St} {H:Hp} {s:aan} {a it l:aaB} {ts:List Tr} {ys:List V} {its:List aai} {ld:Bool}
end
end L2
namespace PySem
section
variable {prog:aaS} {w:abg} {A:abi} {E:aai→aan→Prop} {s:aan}
end
end PySem
namespace PySem.F
end PySem.F
namespace fq
open PySem
section
variable {M:Model} {A:abi} {E:aai→aan→Prop} {s:aan}
end
end fq
namespace fq
open PySem
section
variable {prog:aaS} {w:abg} {A:abi} {E:aai→aan→Prop} {s:aan} {I a T:aaB} {first:aai} {i ep:Nat} {es:Array (Int × aai)} {t:SetTable} {pl:List Nat} {ord:List aai}
end
end fq
namespace fq
open PySem
section
variable {prog:aaS} {w:abg} {A:abi} {E:aai→aan→Prop} {s:aan} {a:aaB} {ep:Nat} {es:Array (Int × aai)} {t:SetTable}
end
end fq
namespace fq
open PySem PySem.W PyProof.Rows
section
variable {prog:aaS} {w:abg} {A:abi} {E:aai→aan→Prop} {s:aan} {a:aaB} {ep:Nat} {es:Array (Int × aai)} {t:SetTable}
end
end fq
namespace L2
open PySem PySem.Spec PyProof.Rows fq
section
variable {X:Cx}
end
end L2
namespace L2
open PySem PySem.Spec PyProof.Rows
mutual
def toP:Tr→PyData
 | .int i=>.int i
 | .str x=>.str x
 | .tup l=>.tuple (toPs l)
def toPs:List Tr→List PyData
 | []=>[]
 | t::r=>toP t::toPs r
end
mutual
theorem toP_depth:∀t:Tr,(toP t).depth=t.toD.deep
 | .int i=>rfl
 | .str x=>rfl
 | .tup l=>by
  show aed (toPs l)+1=Dt.ja (Tr.toDs l)+1
  rw [toPs_depth l]
theorem toPs_depth:∀l:List Tr,aed (toPs l)=Dt.ja (Tr.toDs l)
 | []=>rfl
 | t::r=>by
  show max (toP t).depth (aed (toPs r))=max t.toD.deep (Dt.ja (Tr.toDs r))
  rw [toP_depth t,toPs_depth r]
end
mutual
theorem toP_nodict:∀t:Tr,(toP t).hasDict=false
 | .int i=>rfl
 | .str x=>rfl
 | .tup l=>by
  show adL (toPs l)=false
  exact toPs_nodict l
theorem toPs_nodict:∀l:List Tr,adL (toPs l)=false
 | []=>rfl
 | t::r=>by
  show((toP t).hasDict || adL (toPs r))=false
  rw [toP_nodict t,toPs_nodict r]
  rfl
end
section
variable {X:Cx} {pins:List (aaB × Obj)} {σ:St} {H:Hp} {s:aan}
mutual
theorem CS (I:Inv X pins σ H s):∀(t:Tr) {x:V} {u:aai},uc X.K H t.toD x→RelV x u→∃as,Reads s.heap u (toP t) as
 | .int i,x,u,h,r=>by
  simp only [Tr.toD] at h
  cases h
  obtain⟨t,rfl⟩:=r
  exact⟨_,.int i t⟩
 | .str i,x,u,h,r=>by
  simp only [Tr.toD] at h
  cases h
  obtain⟨t,rfl⟩:=r
  exact⟨_,.str i t⟩
 | .tup l,x,u,h,r=>by
  obtain⟨p,ys,its,rfl,⟨o,ho,hc,n,hd⟩,rv,hT⟩:=J0 I h r
  obtain⟨as,z⟩:=tE I l hT rv
  exact⟨as,.tuple ho hc hd z⟩
theorem tE (I:Inv X pins σ H s):∀(l:List Tr) {ys:List V} {its:List aai},Ts X.K H l ys→Vals ys its→∃as,ReadsAll s.heap its (toPs l) as
 | [],[],_,_,.nil=>⟨_,.nil⟩
 | [],_::_,_,h,_=>by have:=h.1;simp at this
 | _::_,[],_,h,_=>by have:=h.1;simp at this
 | t::l,y::ys,_,h,.cons r q=>by
  obtain⟨as,z⟩:=CS I t (h.2 0 (by simp) (by simp)) r
  obtain⟨bs,z2⟩:=tE I l (ys:=ys) ⟨by have:=h.1;simpa using this,fun i h1 h2=>h.2 (i+1) (by simpa using h1) (by simpa using h2)⟩ q
  exact⟨_,.cons z z2⟩
end
end
section
variable {X:Cx} {e:Expr} {te:TE} {pre:Str} {j:Nat} {p1 p2 p3:Pos}
def Sn (K:aae) (te:TE):TE:=fun σ H Q=>te σ H fun y H1=>∃l,uc K H1 (Tr.tup l).toD y∧(Tr.tup l).toD.deep≤18∧(toP (.tup l)).showable=true∧(toP (.tup l)).shown.length≤1000000∧∀x,Q (.str x) H1
theorem uL (hg:X.A.guards=some []) (hu:X.A.units+64<cLine) (he:PE X e te) (hp:pre.length≤1000:=by decide):PE X (.JoinedStr [.Constant (.str pre) j p1,.FormattedValue e 114 none p2] p3) (Sn X.K te):=by
 intro pins s σ H Q I h
 refine wpAny_JoinedStr ?_
 refine adv ⟨pre,_,rfl,?_,?_⟩
 ·show(acf++pre).length≤aaj
  rw [strLen_append,aax]
  have:acf.length=0:=rfl
  omega
 refine wpAny_FormattedValue_repr (thn (he pins _ σ H _ (I.tok _) h) fun u s1 ⟨y,H1,I1,r1,l,hd,hdp,hs,hz,q⟩=>?_)
 obtain⟨as,rd⟩:=CS I1 (.tup l) hd r1
 obtain⟨p,_,_,rfl,_⟩:=J0 I1 hd r1
 have WD:=toP_depth (.tup l)
 refine pyReprObj_of_reads rd hs (fun z=>by rw [toP_nodict] at z;cases z) hg (by rw [WD];omega) (fun _ _ z=>z) (fun h' tk t' kp=>?_) (by rw [aax];omega)
 have hlen:(acf++pre++(toP (.tup l)).shown).length≤aaj:=by
  rw [strLen_append,strLen_append,aax]
  have:acf.length=0:=rfl
  omega
 exact wpAny_formatField_str ⟨_,_,rfl,hlen,hlen,.str _,H1,I1.kept kp,⟨_,rfl⟩,q _⟩ ⟨_,_,rfl,hlen,hlen,.str _,H1,I1.kept kp,⟨_,rfl⟩,q _⟩ (by rw [aax];omega)
end
def So (k:Str) (as:List Str):Tr:=.tup [.str k,.tup (as.map .str)]
def U2 (x:Str):Prop:=x.length≤100∧∀c∈x.cps.toList,c<16 ^ 8
theorem vF:∀(as:List Str),(∀a∈as,U2 a)→aeI (toPs (as.map .str))=true∧((ab7 (toPs (as.map .str))).map (·.length)).sum≤1002 * as.length∧(ab7 (toPs (as.map .str))).length=as.length
 | [],_=>⟨rfl,aaz _,rfl⟩
 | a::r,h=>by
  obtain⟨z1,z2,z3⟩:=vF r fun b hb=>h b (aam _ hb)
  have ha:=h a (aav ..)
  have y:=ac7 a ha.2
  refine⟨z1,?_,?_⟩
  ·show(reprText a).length+((ab7 (toPs (r.map .str))).map (·.length)).sum≤1002 * (r.length+1)
   have:=ha.1
   omega
  ·show(ab7 (toPs (r.map .str))).length+1=r.length+1
   omega
theorem EO {k:Str} {as:List Str} (hk:U2 k) (ha:∀a∈as,U2 a) (hl:as.length≤100):(toP (So k as)).showable=true∧(toP (So k as)).shown.length≤1000000:=by
 obtain⟨z1,z2,z3⟩:=vF as ha
 have y:=ac7 k hk.2
 constructor
 ·show(true && (aeI (toPs (as.map .str)) && true))=true
  rw [z1]
  rfl
 ·show(tupleText [reprText k,tupleText (ab7 (toPs (as.map .str)))]).length≤1000000
  have a1:=tupleText_len_le [reprText k,tupleText (ab7 (toPs (as.map .str)))]
  have a2:=tupleText_len_le (ab7 (toPs (as.map .str)))
  simp only [aa5,abJ,acR,adA,aar,abb] at a1
  rw [z3] at a2
  have:=hk.1
  omega
theorem yZ:∀(as:List Str),Dt.ja (Tr.toDs (as.map .str))=0
 | []=>rfl
 | a::r=>by
  show max 0 (Dt.ja (Tr.toDs (r.map .str)))=0
  rw [yZ r]
  rfl
theorem m8 (k:Str) (as:List Str):(So k as).toD.deep=2:=by
 show max 0 (max (Dt.ja (Tr.toDs (as.map .str))+1) 0)+1=2
 rw [yZ]
 rfl
theorem vG {K:aae} {H:Hp} {t:aaB} {as:List Str} (h:bT K H t (as.map .str)):uc K H (Tr.tup (as.map .str)).toD (.ref t):=by
 simp only [Tr.toD]
 refine .tup h (by rw [toDs_length,Lm9,Lm9]) fun i h1 h2=>?_
 rw [toDs_get _ i (by rw [toDs_length] at h1;exact h1)]
 simp only [aaG]
 simp only [Tr.toD]
 exact .str _
theorem J1 {K:aae} {H:Hp} {t t2:aaB} {k:Str} {as:List Str} (h1:bT K H t [.str k,.ref t2]) (h2:bT K H t2 (as.map .str)):uc K H (So k as).toD (.ref t):=by
 show uc K H (.tup [.str k,(Tr.tup (as.map .str)).toD]) (.ref t)
 refine .tup h1 rfl fun i i1 i2=>?_
 match i,i1,i2 with
 | 0,_,_=>exact .str _
 | 1,_,_=>exact vG h2
def Ac (P:aaS) (w:abg) (K:aae) (mg:Str→Option aai) (base:Heap) (x:Str) (k:Nat) (ps:List Str) (sp:Sp):Prop :=
 ∃f fd,a4 P w K mg base (Ef P w) k f fd ps sp∧Binds K fd ps []∧ab2 K (.ref f)=true∧mg x=some (.ref f)
section
variable {P:aaS} {w:abg} {K:aae} {mg:Str→Option aai} {base:Heap} {N:List Str} {qual:Str} {scope:Scope} {f:aaB} {cd:aai} {A:abi} {outer:List Env} {s₀:aan} {H₀:Hp} {E:XK} {x:Str} {k:Nat} {ps:List Str} {sp:Sp} {p pos:Pos} {e:Expr} {es:List Expr} {t:TA}
theorem lP (c:Ac P w K mg base x k ps sp) (hr:dR k (jt P w K mg base N qual scope f cd A outer s₀ H₀ E).A) (hg:Gl (jt P w K mg base N qual scope f cd A outer s₀ H₀ E) x) (ha:PA (jt P w K mg base N qual scope f cd A outer s₀ H₀ E) (e::es) t)
  (xm:(x == ("__debug__":Str))=false:=by decide) (he:starEach (e::es) (jt P w K mg base N qual scope f cd A outer s₀ H₀ E).env=(false,eval e (jt P w K mg base N qual scope f cd A outer s₀ H₀ E).env)::starEach es (jt P w K mg base N qual scope f cd A outer s₀ H₀ E).env:=by rfl)
  (hpl:(backTo pos (starEach es (jt P w K mg base N qual scope f cd A outer s₀ H₀ E).env)).any (·.1)=false:=by rfl):PE (jt P w K mg base N qual scope f cd A outer s₀ H₀ E) (.Call (.Name x p) (e::es) [] pos) (IT sp [] E t):=by
 obtain⟨f',fd,F,b,kp,mg⟩:=c
 exact FH F hr hg mg kp b .nil RX ha xm he hpl
end
section
variable {X:Cx} {x:Str} {k:Nat} {ps:List Str} {sp:Sp} {p pos:Pos} {e:Expr} {es:List Expr} {t:TA} {pn:List (aaB × Obj)} {R:aai→St→Hp→Prop}
theorem J2 (c:Ac X.prog X.w X.K X.mg X.base x k ps sp) (hr:dR k X.A) (hg:Gl X x) (ha:PA (pR X pn R) (e::es) t) (xm:(x == ("__debug__":Str))=false:=by decide) (he:starEach (e::es) X.env=(false,eval e X.env)::starEach es X.env:=by rfl) (hpl:(backTo pos (starEach es X.env)).any (·.1)=false:=by rfl) :
  PE (pR X pn R) (.Call (.Name x p) (e::es) [] pos) (Jm sp [] R t):=by
 obtain⟨f',fd,F,b,kp,mg⟩:=c
 exact Jn F hr hg mg kp b .nil ha xm he hpl
end
end L2
namespace L2
open PySem PySem.Spec PyProof.Rows
section
variable {X:Cx}
end
end L2
namespace Bk
open PySem L2 cR
def Sq (p:Cs):Prop:=p≠[]∧p.length≤100∧∀c∈p,c<16 ^ 8
theorem Sq.shw {p:Cs} (h:Sq p):U2 (S p):=⟨by rw [aS];exact h.2.1,by rw [bH];exact h.2.2⟩
structure FS (f:Fc):Prop where
 k:Sq f.k
 as:∀a∈f.as,Sq a
 n:f.as.length≤100
def fT (f:Fc):Tr:=So (S f.k) (f.as.map S)
def fault (ks:List Kd) (f:Fc):Nat:=match ks.find? (fun k=>decide (k.n=f.k)) with
 | none=>1
 | some k=>if k.c=f.as.length then 0 else 2
def fu (ks:List Kd):List Fc→Nat
 | []=>0
 | f::r=>if fault ks f=0 then fu ks r else fault ks f
theorem PD (ks:List Kd) (p:Cs):cb (ks.map qc) (aa3 (S p):Key)=(ks.find? (fun k=>decide (k.n=p))).map fun k=>V.int k.c:=by
 unfold cb
 induction ks with
 | nil=>rfl
 | cons k r ih =>
  rw [aa5,abx,abx]
  have e:(decide ((qc k).1=(aa3 (S p):Key)))=decide (k.n=p):=by
   show decide ((aa3 (S k.n):Key)=aa3 (S p))=decide (k.n=p)
   refine decide_eq_decide.mpr ⟨fun h=>?_,fun h=>by rw [h]⟩
   have z:=ac8 h
   have z2:=congrArg (fun x:Str=>x.cps.toList) z
   simpa using z2
  rw [e]
  cases decide (k.n=p) with
  | true=>rfl
  | false=>exact ih
theorem dX (l:List Cs):l.map tx=(l.map S).map V.str:=by rw [abz];rfl
theorem Fact.WE {K:aae} {H:Hp} {f:Fc} {v:V} (h:Fact K H f v):uc K H (fT f).toD v:=by
 obtain⟨t,t2,rfl,h1,h2⟩:=h
 exact J1 h1 (by rw [← dX];exact h2)
theorem FS.shown {f:Fc} (h:FS f):(toP (fT f)).showable=true∧(toP (fT f)).shown.length≤1000000 :=
 EO h.k.shw (fun a ha=>by obtain⟨b,hb,rfl⟩:=aay.mp ha;exact(h.as b hb).shw) (by rw [Lm9];exact h.n)
structure KF (K:aae) (H:Hp) (lk lf:aaB) (ks:List Kd) (fs:List Fc):Prop where
 hk:∃kvs,H lk=some (.lst kvs)∧Paired (Kind K H) ks kvs
 nd:(ks.map (·.n)).Nodup
 few:ks.length≤10000
 hf:∃Gi,H lf=some (.lst Gi)∧Paired (Fact K H) fs Gi
 ok:∀f∈fs,FS f
theorem Kind.sm {K:aae} {H H':Hp} (s:ai H H') {k:Kd} {v:V} (h:Kind K H k v):Kind K H' k v:=by
 obtain⟨t,e,q⟩:=h
 exact⟨t,e,q.same s⟩
theorem Fact.sm {K:aae} {H H':Hp} (s:ai H H') {f:Fc} {v:V} (h:Fact K H f v):Fact K H' f v:=by
 obtain⟨t,t2,e,q,q2⟩:=h
 exact⟨t,t2,e,q.same s,q2.same s⟩
def PF (C1 C2:aaB) (n:Nat) (H:Hp) (E:XK):Prop:=(n=1→∀H',ai H H'→E (.ref C1) none H')∧(n=2→∀H',ai H H'→E (.ref C2) none H')
def CT (K:aae) (C1 C2:aaB):Sp:=fun vs H Q E=>∃(lk lf:aaB) (ks:List Kd) (fs:List Fc),vs=[.ref lk,.ref lf]∧KF K H lk lf ks fs∧PF C1 C2 (fu ks fs) H E∧(fu ks fs=0→∀H',ai H H'→Q .cB H')
theorem J3 (ks:List Kd) (f:Fc):fault ks f=0∨fault ks f=1∨fault ks f=2:=by
 unfold fault
 split
 ·exact .inr (.inl rfl)
 ·split
  ·exact .inl rfl
  ·exact .inr (.inr rfl)
theorem tF {ks:List Kd} {fs:List Fc} {i:Nat} (h:i<fs.length):fu ks (fs.drop i)=if fault ks fs[i]=0 then fu ks (fs.drop (i+1)) else fault ks fs[i]:=by
 rw [abE h]
 rfl
end Bk
namespace Bk
open PySem L2 cR
def Gj (acc:List Cs) (n:Cs):List Cs:=if great n=true then (if n∈acc then acc else acc++[n]) else acc
def kn (acc ns:List Cs):List Cs:=ns.foldl Gj acc
theorem Ad:∀(ns acc:List Cs),(kn acc ns).length≤acc.length+ns.length
 | [],acc=>by simp [kn]
 | n::r,acc=>by
  have z:=Ad r (Gj acc n)
  have y:(Gj acc n).length≤acc.length+1:=by
   unfold Gj
   split
   ·split
    ·omega
    ·simp
   ·omega
  show(kn (Gj acc n) r).length≤_
  rw [aar]
  omega
theorem PJ {H:Hp} {a:aaB} {o:HO} (h:H a=some o):upd H a o=H:=by
 funext b
 unfold upd
 split
 ·rename_i e;rw [e,h]
 ·rfl
end Bk
namespace L2
open PySem PySem.Spec PyProof.Rows
end L2
namespace Bk
open PySem L2 cR
def fU (ks:List Kd):List Cs:=(ks.filter (·.l)).map (·.n)
end Bk
namespace L2
open PySem
end L2
namespace Bk
open PySem L2 cR
theorem PK (acc a b:List Cs):kn acc (a++b)=kn (kn acc a) b:=by unfold kn;rw [acW]
theorem Hg {fs:List Fc} {i:Nat} (h:i<fs.length):(fs.take (i+1)).flatMap (·.as)=(fs.take i).flatMap (·.as)++fs[i].as:=by
 rw [aak h,abq]
 simp
end Bk
namespace L2
end L2
namespace L2
open PySem PySem.Spec PyProof.Rows
section
variable {X:Cx}
def Sr (K:aae):R2:=fun x y H Q=>∃a b xs ys,x=.ref a∧y=.ref b∧bT K H a xs∧bT K H b ys∧xs.length+ys.length≤aaj ∧
 (xs=[]→Q (.ref b) H)∧(xs≠[]→ys=[]→Q (.ref a) H)∧(xs≠[]→ys≠[]→∀p,H p=none→Q (.ref p) (upd H p (.tup (xs++ys))))
theorem Mi:rH X (binaryOp .Add) (Sr X.K):=by
 intro pins s σ H x y v u Q I rx ry h
 obtain⟨a,b,xs,ys,rfl,rfl,ha,hb,hz,q0,q1,q2⟩:=h
 by_cases hx:xs=[]
 ·cases rx
  cases ry
  obtain⟨its,r1,p1,_⟩:=I.tuple ha
  obtain⟨dS,r2,p2,_⟩:=I.tuple hb
  have hi:its=[]:=r1.uB.mpr hx
  obtain⟨⟨cls,dd,data,sl⟩,ho,hc,n,hd⟩:=id p1
  obtain⟨⟨We,UO,data2,QL⟩,OU,yJ,n2,hd2⟩:=id p2
  simp only at hc hd yJ hd2
  subst hc hd yJ hd2
  exact concat_meets ⟨_,ho,rfl⟩ ⟨_,OU,rfl⟩ noFill_tuple_add seq_tuple_add acU acK (acC _ _)
   (tuple_addW0 a b its.toArray dS.toArray n n2 dd UO sl QL (by simp [hi])) ⟨ho,OU,.ref b,H,I,rfl,q0 hx⟩
 ·exact LR pins s σ H _ _ v u Q I rx ry ⟨a,b,xs,ys,rfl,rfl,ha,hb,hx,hz,q1 hx,q2 hx⟩
end
end L2
namespace Bk
open PySem L2 cR
def nC (K:aae) (H:Hp) (l:aaB) (ks:List Kd):Prop:=∃kvs,H l=some (.lst kvs)∧Paired (Kind K H) ks kvs
def sd (K:aae) (H:Hp) (l:aaB) (fs:List Fc):Prop:=∃Gi,H l=some (.lst Gi)∧Paired (Fact K H) fs Gi
theorem nC.sm {K:aae} {H H':Hp} {l:aaB} {ks:List Kd} (s:ai H H') (h:nC K H l ks):nC K H' l ks:=by
 obtain⟨kvs,h1,h2⟩:=h
 exact⟨kvs,s _ _ h1,ax h2 fun _ _ _=>Kind.sm s⟩
theorem sd.sm {K:aae} {H H':Hp} {l:aaB} {fs:List Fc} (s:ai H H') (h:sd K H l fs):sd K H' l fs:=by
 obtain⟨kvs,h1,h2⟩:=h
 exact⟨kvs,s _ _ h1,ax h2 fun _ _ _=>Fact.sm s⟩
def CU (K:aae):Sp:=fun vs H Q _=>∃(lk:aaB) (v:V) (ks:List Kd) (f:Fc),vs=[.ref lk,v]∧nC K H lk ks∧Fact K H f v∧f.k.length≤1000∧(∀k∈ks,k.n.length≤1000)∧Q (.int (fault ks f)) H
def NW (K:aae):Sp:=fun vs H Q _=>∃(v:V) (f:Fc) (st:Cs) (n:Int),vs=[v,tx st,.int n]∧Fact K H f v∧f.as.length≤100 ∧
 ∀(v':V) (f':Fc) (H':Hp),ai H H'→Fact K H' f' v'→(f'.k=f.k∨f'.k=st)→(∀a∈f'.as,a∈f.as∨a=st)→f'.as.length≤f.as.length+1→Q v' H'
def CV (K:aae):Sp:=fun vs H Q _=>∃(lk:aaB) (v:V) (ks:List Kd) (f:Fc),vs=[.ref lk,v]∧nC K H lk ks∧(ks.map (·.n)).Nodup∧Fact K H f v∧f.k.length≤1000∧(∀k∈ks,k.n.length≤1000)∧Q (.bl (decide (f.k∈fU ks))) H
theorem lQ {p:Cs} (h:aD p=true):Sq p:=by
 unfold aD at h
 rw [aaW,aaW] at h
 have h1:=of_decide_eq_true h.1
 have h2:=of_decide_eq_true h.2.1
 refine⟨fun e=>by rw [e] at h1;simp at h1,by omega,fun c hc=>?_⟩
 have z:=aa4.mp h.2.2 c hc
 have key:∀c:Nat,bp c=true→c<200:=by
  intro c hc
  unfold bp at hc
  have a1:∀d∈ef.cps.toList,d<200:=by decide +kernel
  have a2:∀d∈eX.cps.toList,d<200:=by decide +kernel
  have a3:∀d∈Hc.cps.toList,d<200:=by decide +kernel
  rw [acS,acS] at hc
  rcases hc with h|h|h
  ·exact a1 c (of_decide_eq_true h)
  ·exact a2 c (of_decide_eq_true h)
  ·exact a3 c (of_decide_eq_true h)
 have:=key c z
 omega
theorem Mj {ks:List Kd} (nd:(ks.map (·.n)).Nodup) {i:Nat} (hi:i<ks.length):decide (ks[i].n∈fU ks)=ks[i].l:=by
 have uni:∀j (hj:j<ks.length),ks[j].n=ks[i].n→j=i:=fun j hj e=>by
  have z:=(List.getElem_inj (xs:=ks.map (·.n)) (i:=j) (j:=i) (h₀:=by simpa using hj) (h₁:=by simpa using hi) nd).mp (by simpa using e)
  exact z
 cases hl:ks[i].l with
 | true =>
  refine decide_eq_true ?_
  unfold fU
  exact aay.mpr ⟨ks[i],abf.mpr ⟨aap hi,hl⟩,rfl⟩
 | false =>
  refine decide_eq_false fun hm=>?_
  unfold fU at hm
  obtain⟨k,PB,NY⟩:=aay.mp hm
  obtain⟨Ss,PL⟩:=abf.mp PB
  obtain⟨j,hj,rfl⟩:=ael.mp Ss
  have e:=uni j hj NY
  subst e
  rw [hl] at PL
  cases PL
end Bk
namespace Bk
open PySem L2 cR
theorem cT {K:aae} {H:Hp} {d t:aaB} {ys:List V} {o:HO} {xs:List V} (hd:H d=some (.lst ys)) (h:bT K H t xs):bT K (upd H d o) t xs:=by
 rcases h with(h|⟨ob,h⟩)|h
 ·refine .inl (.inl ?_)
  rw [aH (fun e=>by rw [e,hd] at h;cases h)]
  exact h
 ·refine .inl (.inr ⟨ob,?_⟩)
  rw [aH (fun e=>by rw [e,hd] at h;cases h)]
  exact h
 ·exact .inr h
theorem m9 {K:aae} {H:Hp} {d:aaB} {ys:List V} {o:HO} {f:Fc} {v:V} (hd:H d=some (.lst ys)) (h:Fact K H f v):Fact K (upd H d o) f v:=by
 obtain⟨t,t2,e,h1,h2⟩:=h
 exact⟨t,t2,e,cT hd h1,cT hd h2⟩
end Bk
namespace Bk
open PySem L2 cR
theorem PM (ns:List Cs) (lo hi:Option Int):∃ms:List Cs,fQ (ns.map tx) lo hi=ms.map tx∧ms.length≤ns.length∧∀m∈ms,m∈ns:=by
 refine⟨(ns.drop (HT.dQ ns.length 0 lo)).take (HT.dQ ns.length ns.length hi - HT.dQ ns.length 0 lo),?_,?_,fun m hm=>abT (abn hm)⟩
 ·unfold fQ
  rw [Lm9,aeH,List.map_drop]
 ·rw [aaA,aba]
  omega
end Bk
namespace L2
theorem dE {t1 t2:TS} {D:Ends} {σ:St} {H:Hp} (Good:St→Hp→Prop) (h:(∀σ' H',Good σ' H'→t2 D σ' H')→t1 { D with nx:=t2 D } σ H) (fin:∀σ' H',Good σ' H'→t2 D σ' H'):Ru t1 t2 D σ H:=h fin
end L2
namespace Bk
open PySem L2 cR
theorem vH {K:aae} {H:Hp} {f:Fc} {v:V} (hF:Fact K H f v):∀{fs:List Fc} {ys:List V} (j:Nat),Paired (Fact K H) fs ys→Paired (Fact K H) (fs.set j f) (ys.set j v)
 | _,_,_,.nil=>.nil
 | _,_,0,.cons _ t=>.cons hF t
 | _,_,j+1,.cons r t=>.cons r (vH hF j t)
end Bk
namespace Bk
open PySem L2 cR
end Bk
namespace L2
theorem bW {i:Nat} {x:V} {σ:St} {H:Hp} {K:St→Hp→Prop} (h:K (σ.set i (some x)) H):yE i x σ H K:=h
end L2
namespace L2
end L2
namespace Bk
open PySem L2 cR
end Bk
namespace PySem.W
open PySem PySem.Spec PySem.Calls PyProof.Rows Builtin Builtin.ObjectAttr Builtin.Getset_descriptor
theorem slot_ve_ga:Slot "ValueError" "__getattribute__" "BaseException.__getattribute__" :=
 .of (owner:="BaseException") (n:="__getattribute__") (by rw [typeLookup_type,builtinLookup_eq_fast];kernel_rfl) (by decide +kernel) (by decide +kernel) (by decide +kernel)
  (by first|exact .inl (by decide +kernel)|exact .inr (by decide +kernel)) (by rw [isSubtype_type];kernel_rfl)
structure ExcKit (K:Frag) (D:aaB):Prop where
 ga:findIn K (.ref D) "__getattribute__"=some (some (.builtin "BaseException.__getattribute__"))
 gt:findIn K (.ref D) "__getattr__"=some none
 cl:findIn K (.ref D) "__class__"=some (some (.builtin "object.__class__"))
 hn:specialIn K (.builtin "object.__class__") "__get__"=some (some (.builtin "getset_descriptor.__get__"))
 hs:specialIn K (.builtin "object.__class__") "__set__"=some (some (.builtin "getset_descriptor.__set__"))
 mo:mroIn K D (.type "object")=some true
 mb:mroIn K D (.type "BaseException")=some true
 ic:isClsIn K D=true
section
variable {prog:aaS} {w:abg} {A:abi} {E:aai→aan→Prop} {K:Frag} {x D:aaB} {ox:Obj}
theorem ER {tp:aai} {s:aan} {R:Result→aan→Prop} (X:K.In s.heap) (hx:s.heap.get? x=some ox) (hc:ox.cls=.ref D) (hm:mroIn K D (.type "object")=some true)
  (h:R (.ok (.ret (.ref D))) s):codeAny (model prog w) A (.call (.builtin "getset_descriptor.__get__") ⟨[.builtin "object.__class__",.ref x,tp],[]⟩) R s:=by
 obtain⟨hh,g,dr,t,os⟩:=s
 have L0:Looks (model prog w) hh (typeOf (.ref x)) (.ref D):=by rw [← hc];exact(ad3 hx).andThen .now
 have L1:=looks_mroIn (M:=model prog w) X hm
 refine codeAny_call_builtin KF.slot_gs.plain KF.entry_gs (KF.slot_gs.check _ _ _ _ _ _ _ _ aeJ (KF.args_gs _ _ _) ?_)
 unfold Builtin.«getset_descriptor.__get__» descrGet
 rw [dga_obj]
 refine aaw (aaX ?_)
 unfold descrGetter descrCheckInstance descrNameAndClass isInstance
 simp only [KF.owner_class]
 repeat lk
 refine⟨Code.quiet_builtin _ (by decide +kernel),codeAny_builtin KF.entry_class ?_⟩
 unfold Builtin.«object.__class__» shownTypeOf
 repeat lk
 exact h
theorem exc_class_entry {tk:Tok} {s:aan} {Q:Fin→aan→Prop} (Z:ExcKit K D) (X:K.In s.heap) (hx:s.heap.get? x=some ox) (hc:ox.cls=.ref D) (hnc:notCls ox=true) (h:Q (.done (.ret (.ref D))) s) :
  aa8 (model prog w) A (Builtin.«object.__getattribute__» ⟨[.ref x,.str "__class__" tk],[]⟩) Q E s:=by
 obtain⟨hh,g,d,t,os⟩:=s
 have L0:Looks (model prog w) hh (typeOf (.ref x)) (.ref D):=by rw [← hc];exact(ad3 hx).andThen .now
 have L1:=looks_findIn (M:=model prog w) X Z.cl
 have f5:typeOf (acQ "object.__class__")=pure (.type "getset_descriptor"):=aeJ
 have hT5:(⟨hh,g,d,t,os⟩:aan).TypeIs (.builtin "object.__class__") "getset_descriptor":=aeJ
 have f6:=F.slot_gs_get.lookup
 have f7:=F.slot_gs_set.lookup
 unfold Builtin.«object.__getattribute__»
 repeat (any_goals (first|assumption|with_reducible refine Looks.at (by assumption) ?_|wp_step))
 refine ER X hx hc Z.mo ?_
 exact aaX h
theorem exc_ga_check {M:Model} {NZ:aai} {s:aan} {Q:Unit→aan→Prop} (Z:ExcKit K D) (X:K.In s.heap) (hx:s.heap.get? x=some ox) (hc:ox.cls=.ref D) (hq:Q () s):aa8 M A (checkBuiltinCall "BaseException.__getattribute__" ⟨[.ref x,NZ],[]⟩) Q E s:=by
 obtain⟨hh,g,d,t,os⟩:=s
 have hk:builtinKind "BaseException.__getattribute__"=some .slot:=by decide +kernel
 have PN:splitId "BaseException.__getattribute__"=some ("BaseException","__getattribute__"):=by decide +kernel
 have L0:Looks M hh (typeOf (.ref x)) (.ref D):=by rw [← hc];exact(ad3 hx).andThen .now
 have L1:Looks M hh (isSubtype (.ref D) (.type "BaseException")) true:=looks_mroIn X Z.mb
 have LI:Looks M hh (isInstance (.ref x) (.type "BaseException")) true:=L0.andThen L1
 have ha:=F.args_bexc_ga (.ref x) NZ
 simp only [checkBuiltinCall,hk,PN]
 refine aaw (LI.at ?_)
 refine wpAny_ite_split (fun hab=>absurd hab (by decide)) fun _=>?_
 exact wpAny_of_eq ha hq
theorem Hh {s:aan} {Q:Option aai→aan→Prop} (Z:ExcKit K D) (X:K.In s.heap) (hx:s.heap.get? x=some ox) (hc:ox.cls=.ref D) (hnc:notCls ox=true) (h:Q (some (.ref D)) { s with toks:=s.toks+1 }) :
  aa8 (model prog w) A (getAttr? (.ref x) "__class__") Q E s:=by
 obtain⟨hh,g,d,t,os⟩:=s
 have L0:Looks (model prog w) hh (typeOf (.ref x)) (.ref D):=by rw [← hc];exact(ad3 hx).andThen .now
 have L1:=looks_findIn (M:=model prog w) X Z.ga
 have L2:=looks_findIn (M:=model prog w) X Z.gt
 have N1:(acQ "BaseException.__getattribute__" == acQ "object.__getattribute__")=false:=by decide +kernel
 have QS:(onTheHeap (abh D) && acQ "BaseException.__getattribute__" == acQ "object.__getattribute__")=false:=by rw [N1];rfl
 unfold getAttr? getAttrBy? getAttrBy
 refine aaw (wpAny_mkText (aaw (wpAny_attempt (wpAny_holding (aaw (L0.at (aaw (L1.at ?_))))))))
 dsimp only
 rw [QS]
 refine wpAny_ite_split (fun hab=>absurd hab (by decide)) fun _=>?_
 unfold getAttrByItsOwn hookBefore
 have f3:=slot_ve_ga.bind (.ref x)
 refine aaw (show aa8 (model prog w) A (typeLookup (abh D) (aaf "__getattr__")) _ _ _ from L2.at ?_)
 refine aaw (wpAny_attempt (wpAny_holding ?_))
 unfold callGetattribute
 refine wpAny_ite_split (fun hab=>absurd hab (by decide)) fun _=>?_
 repeat (any_goals (first|assumption|wp_step))
 refine codeAny_call_builtin slot_ve_ga.plain F.entry_bexc_ga (exc_ga_check Z X hx hc (exc_class_entry Z X hx hc hnc ?_))
 exact handed_on rfl (aaX h)
theorem kitx_exc (Z:ExcKit K D):KitX K (.ref x) (.ref D) (fun h=>h.get? x=some ox∧ox.cls=.ref D∧notCls ox=true) where
 ty:=fun _ _ _ p=>by rw [← p.2.1];exact(ad3 p.1).andThen .now
 it:=fun _ _ X _=>by
  have LJ:(clsIn K D).isSome=true:=Z.ic
  unfold clsIn at LJ
  split at LJ
  ·rename_i c' d' cd' sl' ho
   intro A' Q' E' s' k q
   unfold isType loadHead
   exact aaw (wpAny_loadPart (k _ _ (X _ _ ho)) (aaX q))
  ·cases LJ
 ne:=fun h tp dd its n sl X htp=>by
  have LJ:(clsIn K D).isSome=true:=Z.ic
  refine Bool.eq_false_iff.mpr fun q=>?_
  have e:D=tp:=Value.ref.inj (beq_iff_eq.mp q)
  subst e
  unfold clsIn at LJ
  split at LJ
  ·rename_i c' d' cd' sl' ho
   have z:=(X _ _ ho).symm.trans htp
   cases z
  ·cases LJ
 ca:=fun X p k=>Hh Z X p.1 p.2.1 p.2.2 k
end
end PySem.W
namespace L2
open PySem PySem.Spec PyProof.Rows
section
variable {X:Cx} {x:aaB} {oe:Obj} {cls:aai}
def ES (K:aae) (x:aaB) (cls:aai):List V→Hp→VK→Prop:=fun xs H Q=>∃(y:V) (C:aai) (D:aaB) (b:Bool),xs=[.ref x,y]∧((∃c,y=.ref c∧C=.ref c)∨∃n,y=.ty n∧C=.type n)∧cls=.ref D∧PySem.W.ExcKit K D∧abM K (.ref D) C=some b∧Q (.bl b) H
theorem ji (hp:(x,oe)∈X.pn) (hc:oe.cls=cls) (hnc:adE oe=true):d8 X (.builtin "isinstance") (ES X.K x cls):=by
 intro pins s σ H xs us Q I r h
 obtain⟨y,C,D,b,rfl,hy,e,Z,hk,q⟩:=h
 obtain⟨u,u2,rfl,rx,ru⟩:=vals2 r
 cases (show u=abh x from rx)
 have e2:u2=C:=by
  rcases hy with⟨c,rfl,rfl⟩|⟨n,rfl,rfl⟩
  ·exact ru
  ·exact ru
 subst e2
 have hx:=(I.pin (x,oe) (aas _ hp)).1
 exact PySem.W.kia_one (PySem.W.kitx_exc (ox:=oe) Z) I.zG ⟨hx,hc.trans e,hnc⟩ hk (by intro z;cases z) fun tk=>⟨.bl b,H,I.tok _,rfl,q⟩
end
abbrev lR (X:Cx) (x:aaB) (oe:Obj):Cx:={ X with A:=X.A.mark (some (.ref x)),calm:=false,pn:=X.pn++[(x,oe)],xe:=fun _ _=>False }
def tHA (K:aae) (C:aai) (i:Nat) (ts:aaB→aai→TS) (tr:aai→TS):aai→TS:=fun cls D σ H=>∃b,ab4 K cls C=some b ∧
 (b=true→∀x,ts x cls { nx:=fun σ H=>D.nx (σ.set i none) H,rt:=D.rt,bk:=fun σ H=>D.bk (σ.set i none) H,ct:=fun σ H=>D.ct (σ.set i none) H } (σ.set i (some (.ref x))) H)∧(b=false→tr cls D σ H)
theorem PQ {X:Cx} {pins:List (aaB × Obj)} {σ:St} {H:Hp} {s:aan} {M:Model} {A:abi} {E:aai→aan→Prop} {i:Nat} {n:Str} {Q:Bool→aan→Prop} (I:Inv X pins σ H s) (hN:X.N.Nodup) (hi:X.N[i]?=some n) (hk:X.env.scope.names.lookup n=some .local)
  (hv:∃v,σ[i]?=some (some v)) (h:∀s',Inv X pins (σ.set i none) H s'→Q true s'):aa8 M A (nsDel X.env.locals n) Q E s:=by
 obtain⟨m,hn,hl⟩:=id I.loc
 have GN:=I.GN
 obtain⟨v0,hv0⟩:=hv
 have WG:(m n).isSome=true:=by
  obtain⟨u,r,q⟩:=hl i n v0 hi hv0 (.inl hk)
  rcases q with⟨_,e⟩|⟨k,c,e,z⟩
  ·rw [e];rfl
  ·have hk':X.env.kindOf n=some .local:=hk
   rcases k with k|k <;> rw [hk'] at k <;> cases k
 refine wpAny_nsDel_keeps hn fun h' v hn' hs=>?_
 rw [WG]
 have tracked:ly X.prog X.w H h':=fun b ob e=>by
  refine(I.hok b ob e).Eh (fun c w' hc q=>(hs.2 c ?_).trans q) (fun _ q=>q) fun _ _ q=>q
  rintro rfl
  rcases hc with rfl|hc
  ·rw [I.free] at e;cases e
  ·rw [I.free] at hc;cases hc
 refine h _ ⟨I.ok,I.os,I.bare,⟨fun b o e nn hb hx=>?_,fun b o e nn hb hx=>?_,I.base.free,fun b o e hx=>?_,I.base.lj,I.base.ju,I.base.lq⟩,⟨_,hn',fun j y v' e1 e2 e3=>?_⟩,fun y c e=>?_,I.free,I.gG,fun p hp=>?_,tracked,by rw [ade];exact I.len⟩
 ·exact(hs.2 b (abd (aaY (aaV e) I.ok.above))).trans (I.base.keep b o e nn hb hx)
 ·obtain⟨sl,e1⟩:=I.base.slot b o e nn hb hx
  exact⟨sl,(hs.2 b (abd (aaY (aaV e) I.ok.above))).trans e1⟩
 ·obtain⟨o',e1⟩:=I.base.there b o e hx
  exact⟨o',(hs.2 b (abd (aaY (aaV e) I.ok.above))).trans e1⟩
 ·by_cases hj:j=i
  ·subst hj
   rw [ach (aau.mp hv0).1] at e2
   cases e2
  ·rw [ac5 (ack hj)] at e2
   obtain⟨u',r',q⟩:=hl j y v' e1 e2 e3
   refine⟨u',r',?_⟩
   rcases q with⟨k,e⟩|⟨k,c,e,z⟩
   ·refine .inl ⟨k,?_⟩
    have:y≠n:=fun e=>hj (uS hN e1 (e ▸ hi))
    simp [this,e]
   ·exact .inr ⟨k,c,e,z.sameBut hs (GN y c e)⟩
 ·obtain⟨w',z⟩:=I.cell y c e
  exact⟨w',z.sameBut hs (GN y c e)⟩
 ·obtain⟨e,nn,ne,nf,d⟩:=I.pin p hp
  exact⟨(hs.2 p.1 ne).trans e,nn,ne,nf,d⟩
theorem uM {X:Cx} {pins:List (aaB × Obj)} {σ:St} {H:Hp} {s:aan} {M:Model} {A:abi} {E:aai→aan→Prop} {i:Nat} {n:Str} {pos:Pos} {Q:Unit→aan→Prop} (I:Inv X pins σ H s) (hN:X.N.Nodup) (hi:X.N[i]?=some n) (hk:X.env.scope.names.lookup n=some .local)
  (h:∀s',Inv X pins (σ.set i none) H s'→Q () s'):aa8 M A (do bindName X.env n .none;unbindBehindTheSuite X.env n pos) Q E s:=by
 have hp:(X.env.scope.kind == .class || (X.env.scope.kind == .module && X.env.locals != X.env.globals))=false:=by rw [I.ok.kind];rfl
 have hl:X.env.kindOf n=some .local:=hk
 have UI:i<σ.length:=by rw [I.len];exact(aau.mp hi).1
 refine aaw (wpAny_bindName (lA (v:=.cB) I hN hi (.inl hk) rfl (fun s1 I1=>?_) (.inr hk)))
 unfold unbindBehindTheSuite
 refine wpAny_onRaise ?_
 unfold unbindName
 refine aaw (wpAny_point (aaw ?_))
 unfold deleteName
 simp only [hl,hp]
 rw [if_neg (by decide)]
 refine aaw (PQ I1 hN hi hk ⟨.cB,ach UI⟩ fun s2 I2=>?_)
 simp only [Bool.not_true,acL,if_false]
 rw [List.set_set] at I2
 exact aaX (wpAny_point (h _ I2))
theorem Su {X:Cx} {C:aai} {nm n:Str} {i:Nat} {np pos:Pos} {b₀:Stmt} {body:List Stmt} {rest:List ExceptHandler} {ts:aaB→aai→TS} {tr:aai→TS} (hN:X.N.Nodup) (hi:X.N[i]?=some n) (hx:X.env.scope.names.lookup n=some .local)
  (hg:Gl X nm) (hm:X.mg nm=some C) (hs:∀a oe cls,oe.cls=cls→adE oe=true→Cf (lR X a oe) (b₀::body) (ts a cls)) (hr:PH X rest tr)
  (xm:(nm == ("__debug__":Str))=false:=by decide):PH X (.ExceptHandler (some (.Name nm np)) (some n) (b₀::body) pos::rest) (tHA X.K C i ts tr):=by
 intro pins s σ H D x cls B a0 L h
 obtain⟨b,eb,ht,hf⟩:=h
 have I:Inv X pins σ H s:=L.land s.heap (Heap.UpToSlots.of_keeps fun _ _ q=>q) L.fl.1
 have Is:Inv (FW X x) pins σ H s:=I.cx rfl (fun z=>nomatch z) fun _ q=>q
 obtain⟨oe,he,hc⟩:=L.fl.there
 have lt:PySem.W.Looks (model X.prog X.w) s.heap (typeOf (.ref x)) cls:=by
  subst hc
  exact(ad3 he).andThen .now
 refine wpAny_handleBy_cons (codeAny_handlers_test (m3 (X:=FW X x) Is hg hm ((PySem.W.exm_one I.zG lt eb).here ?_) xm)) (by intro q;cases q)
 cases b with
 | false=>exact hr pins s σ H D x cls B a0 L (hf rfl)
 | true =>
  refine codeAny_handlers_suite_as (lands_againW L.fl fun h' WH sm=>?_)
  have I':Inv X pins σ H { s with heap:=h' }:=L.land h' sm WH.1
  obtain⟨QT,vs',he',hc',hd',_⟩:=WH.first
  have WI:adE QT=true:=by
   unfold adE
   rw [hd']
  have WJ:∀b∈g9 X.stack,b≠x:=fun b hb e=>by
   obtain⟨_,o2,e2,hd2⟩:=WH.2.2.1.mem hb
   rw [e,he'] at e2
   cases e2
   exact absurd hd' (hd2 _)
  have hxs:x∉g9 X.stack:=fun hm=>WJ x hm rfl
  have WK:x≠X.env.locals:=fun e=>by
   obtain⟨m,⟨o,es,ep,ho,QU,_⟩,_⟩:=I'.loc
   have ho:h'.get? X.env.locals=some o:=ho
   rw [← e,he'] at ho
   cases ho
   rw [hd'] at QU
   cases QU
  have ED:x∉X.fs:=fun hm=>by
   rcases I.ok.QK with z|⟨z,_⟩
   ·exact hxs (by rw [z];exact hm)
   ·refine hxs ?_
    rw [z]
    unfold g9
    rw [ace]
    split
    ·exact hm
    ·exact aam _ hm
  have I2:Inv (lR X x QT) pins σ H { s with heap:=h' } :=
   ⟨I'.ok.cx rfl (fun z=>nomatch z),I'.os,I'.bare,I'.base,I'.loc,I'.cell,I'.free,I'.gG,(fun p hp=>by
    rcases aaq.mp hp with q|q
    ·rcases aaq.mp q with q|q
     ·exact I'.pin p (aas _ q)
     ·have e:=aal.mp q
      subst e
      exact⟨he',L.fr,WK,ED,fun v z=>by rw [hd'] at z;cases z⟩
    ·exact I'.pin p (aah _ q)),I'.hok,I'.len⟩
  refine lA (X:=lR X x QT) (v:=.ref x) I2 hN hi (.inl hx) rfl (fun s1 I3=>?_) (.inr hx)
  refine wpAny_mono (hs x QT cls hc' WI pins _ _ H _ I3 (ht rfl x)) (fun fw s2 q=>?_) fun _ _ z=>abH z
  have back:∀{σ':St} {H':Hp},Inv (lR X x QT) pins σ' H' s2→Inv X pins σ' H' s2:=fun {σ' H'} J=>J.cx (X:=lR X x QT) (A':=X.A) rfl I.ok.hd fun p z=>by
   rcases aaq.mp z with q|q
   ·exact aas _ (aas _ q)
   ·exact aah _ q
  dsimp only
  cases fw with
  | next =>
   obtain⟨σ',H',J,q⟩:=q
   exact uM (back J) hN hi hx fun s' J'=>⟨_,H',J',q⟩
  | brk =>
   obtain⟨σ',H',J,q⟩:=q
   exact uM (back J) hN hi hx fun s' J'=>⟨_,H',J',q⟩
  | cont =>
   obtain⟨σ',H',J,q⟩:=q
   exact uM (back J) hN hi hx fun s' J'=>⟨_,H',J',q⟩
  | ret u =>
   obtain⟨v,σ',H',J,r,q⟩:=q
   exact uM (back J) hN hi hx fun s' J'=>⟨v,_,H',J',r,q⟩
end L2
namespace L2
open PySem PySem.Spec PyProof.Rows
section
variable {X:Cx} {e:Expr} {te:TE} {pre:Str} {j:Nat} {p1 p2 p3:Pos}
def PR (te:TE):TE:=fun σ H Q=>te σ H fun y H1=>∃z,y=.str z∧z.length≤50000∧(∀c∈z.cps.toList,c<16 ^ 8)∧∀x,Q (.str x) H1
theorem Ka (he:PE X e te) (hp:pre.length≤1000:=by decide):PE X (.JoinedStr [.Constant (.str pre) j p1,.FormattedValue e 114 none p2] p3) (PR te):=by
 intro pins s σ H Q I h
 refine wpAny_JoinedStr ?_
 refine adv ⟨pre,_,rfl,?_,?_⟩
 ·show(acf++pre).length≤aaj
  rw [strLen_append,aax]
  have:acf.length=0:=rfl
  omega
 refine wpAny_FormattedValue_repr (thn (he pins _ σ H _ (I.tok _) h) fun u s1 ⟨y,H1,I1,r1,z,ez,hz,hc,q⟩=>?_)
 subst ez
 obtain⟨t,rfl⟩:=r1
 have hl:=ac7 z hc
 have hlen:(acf++pre++reprText z).length≤aaj:=by
  rw [strLen_append,strLen_append,aax]
  have:acf.length=0:=rfl
  omega
 refine wpAny_pyReprObj_str ?_ (by rw [aax];omega)
 exact wpAny_formatField_str ⟨_,_,rfl,hlen,hlen,.str _,H1,(I1.tok _).tok _,⟨_,rfl⟩,q _⟩ ⟨_,_,rfl,hlen,hlen,.str _,H1,((I1.tok _).tok _).tok _,⟨_,rfl⟩,q _⟩ (by rw [aax];omega)
end
end L2
namespace Bk
open PySem L2 cR
theorem nh:∀(l cur:Cs),∀p∈b7 l cur,∀c∈p,c∈l∨c∈cur
 | [],cur,p,hp,c,hc=>by
  have hp':p∈shut cur []:=hp
  unfold shut at hp'
  by_cases h:cur=[]
  ·rw [if_pos h] at hp';cases hp'
  ·rw [if_neg h] at hp'
   rw [aal.mp hp'] at hc
   exact .inr hc
 | d::r,cur,p,hp,c,hc=>by
  have hp':p∈(if bp d=true then b7 r (cur++[d]) else shut cur (if d=32 then b7 r [] else [d]::b7 r [])):=hp
  by_cases ha:bp d=true
  ·rw [if_pos ha] at hp'
   rcases nh r _ p hp' c hc with z|z
   ·exact .inl (aam _ z)
   ·rcases aaq.mp z with z|z
    ·exact .inr z
    ·rw [aal.mp z];exact .inl (aav ..)
  ·rw [if_neg ha] at hp'
   have key:p∈(if d=32 then b7 r [] else [d]::b7 r [])→c∈d::r∨c∈cur:=fun hp'=>by
    by_cases h2:d=32
    ·rw [if_pos h2] at hp'
     rcases nh r _ p hp' c hc with z|z
     ·exact .inl (aam _ z)
     ·cases z
    ·rw [if_neg h2] at hp'
     rcases aaN.mp hp' with rfl|hp'
     ·rw [aal.mp hc];exact .inl (aav ..)
     ·rcases nh r _ p hp' c hc with z|z
      ·exact .inl (aam _ z)
      ·cases z
   unfold shut at hp'
   by_cases h:cur=[]
   ·rw [if_pos h] at hp';exact key hp'
   ·rw [if_neg h] at hp'
    rcases aaN.mp hp' with rfl|hp'
    ·exact .inr hc
    ·exact key hp'
def Ref (C:aaB) (H:Hp) (E:XK):Prop:=∀H',ai H H'→E (.ref C) none H'
end Bk
namespace L2
open PySem PySem.Spec PyProof.Rows
mutual
theorem CW:∀d:Dt,FV d d=true
 | .cB=>by unfold FV;rfl
 | .bl b=>by unfold FV;exact beq_self_eq_true b
 | .int i=>by unfold FV;exact beq_self_eq_true i
 | .str x=>by unfold FV;exact beq_self_eq_true x
 | .tup ds=>by unfold FV;exact y0 ds
theorem y0:∀ds:List Dt,u5 ds ds=true
 | []=>by unfold u5;rfl
 | d::r=>by unfold u5;rw [CW d,y0 r];rfl
end
section
variable {X:Cx}
def Alike (K:aae) (H:Hp) (x y:V):Prop:=∃(a b:aaB) (xs ys:List V) (ds:List Dt),x=.ref a∧y=.ref b∧aL K H a xs∧aL K H b ys∧ds.length=xs.length∧ds.length=ys.length∧(∀d∈ds,d.deep≤20) ∧
 (∀(i:Nat) (h0:i<ds.length) (h1:i<xs.length),uc K H ds[i] xs[i])∧(∀(i:Nat) (h0:i<ds.length) (h1:i<ys.length),uc K H ds[i] ys[i])
def WL (K:aae):R2:=fun x y H Q=>Alike K H x y∧Q (.bl true) H
def WM (K:aae):R2:=fun x y H Q=>Alike K H x y∧Q (.bl false) H
theorem CY {pins:List (aaB × Obj)} {σ:St} {H:Hp} {s:aan} (I:Inv X pins σ H s) (hu:X.A.units+64<cLine) {a b:aaB} {xs ys:List V} {ds:List Dt} {its dS:List aai} (Lp:Vals xs its) (Lq:Vals ys dS) (e1:ds.length=xs.length) (e2:ds.length=ys.length) (hd:∀d∈ds,d.deep≤20)
  (h1:∀(i:Nat) (h0:i<ds.length) (h1:i<xs.length),uc X.K H ds[i] xs[i]) (h2:∀(i:Nat) (h0:i<ds.length) (h1:i<ys.length),uc X.K H ds[i] ys[i]) (j:Nat) (j1:j<its.toArray.size) (j2:j<dS.toArray.size):aeN X.A.in1 s its.toArray[j] dS.toArray[j] true:=by
 have LX:=Lp.length
 have LY:=Lq.length
 have j1':j<its.length:=by simpa using j1
 have j2':j<dS.length:=by simpa using j2
 obtain⟨u1,f1,q1⟩:=Lp.get (i:=j) (x:=xs[j]'(by omega)) (by simp)
 obtain⟨u2,f2,q2⟩:=Lq.get (i:=j) (x:=ys[j]'(by omega)) (by simp)
 have c1:its.toArray[j]=u1:=by
  have z:=aau.mp f1
  simpa using z.2
 have c2:dS.toArray[j]=u2:=by
  have z:=aau.mp f2
  simpa using z.2
 rw [c1,c2]
 have z:=O6 I rfl 20 X.A.in1 (hd _ (aap (show j<ds.length by omega))) (by show X.A.units+1+20<cLine;omega) (h1 j (by omega) (by omega)) (h2 j (by omega) (by omega)) q1 q2
 rw [CW] at z
 exact z
theorem WN (hu:X.A.units+64<cLine):rH X (compareOp .Eq) (WL X.K):=by
 intro pins s σ H x y v u Q I rx ry h
 obtain⟨⟨a,b,xs,ys,ds,rfl,rfl,g1,g2,l1,l2,hd,h1,h2⟩,q⟩:=h
 cases rx
 cases ry
 obtain⟨its,Lp,⟨o1,n1,p1,c1,d1,f1⟩,_⟩:=I.list g1
 obtain⟨dS,Lq,⟨o2,n2,p2,c2,d2,f2⟩,_⟩:=I.list g2
 have i1:s.heap.IsList a its.toArray:=⟨o1,p1,c1,n1,by assumption⟩
 have i2:s.heap.IsList b dS.toArray:=⟨o2,p2,c2,n2,by assumption⟩
 have LX:=Lp.length
 have LY:=Lq.length
 refine aeZ (e:=fun _=>true) i1 i2 (by simp;omega) (by omega) (fun j j1 j2=>CY (a:=a) (b:=b) I hu Lp Lq l1 l2 hd h1 h2 j j1 j2) _ _ _ _ ?_
 refine⟨.bl _,H,I,rfl,?_⟩
 have e:(abC its.toArray.size).all (fun _=>true)=true:=by simp
 rw [e]
 exact q
theorem PU (hu:X.A.units+64<cLine):rH X (compareOp .NotEq) (WM X.K):=by
 intro pins s σ H x y v u Q I rx ry h
 obtain⟨⟨a,b,xs,ys,ds,rfl,rfl,g1,g2,l1,l2,hd,h1,h2⟩,q⟩:=h
 cases rx
 cases ry
 obtain⟨its,Lp,⟨o1,n1,p1,c1,d1,f1⟩,_⟩:=I.list g1
 obtain⟨dS,Lq,⟨o2,n2,p2,c2,d2,f2⟩,_⟩:=I.list g2
 have i1:s.heap.IsList a its.toArray:=⟨o1,p1,c1,n1,by assumption⟩
 have i2:s.heap.IsList b dS.toArray:=⟨o2,p2,c2,n2,by assumption⟩
 have LX:=Lp.length
 have LY:=Lq.length
 refine SeqAt.RcNeAt.lists (e:=fun _=>true) i1 i2 (by simp;omega) (by omega) (fun j j1 j2=>CY (a:=a) (b:=b) I hu Lp Lq l1 l2 hd h1 h2 j j1 j2) _ _ _ _ ?_
 refine⟨.bl _,H,I,rfl,?_⟩
 have e:(abC its.toArray.size).all (fun _=>true)=true:=by simp
 rw [e]
 exact q
theorem Alike.plain {K:aae} {H:Hp} {a b:aaB} {ds:List Dt} {xs:List V} (h1:aL K H a xs) (h2:aL K H b xs) (hl:ds.length=xs.length) (hd:∀d∈ds,d.deep≤20) (h:∀(i:Nat) (h0:i<ds.length) (h1:i<xs.length),uc K H ds[i] xs[i]):Alike K H (.ref a) (.ref b) :=
 ⟨a,b,xs,xs,ds,rfl,rfl,h1,h2,hl,hl,hd,h,h⟩
theorem Alike.bools {K:aae} {H:Hp} {a b:aaB} {bs:List Bool} (h1:aL K H a (bs.map V.bl)) (h2:aL K H b (bs.map V.bl)):Alike K H (.ref a) (.ref b):=by
 refine .plain (ds:=bs.map Dt.bl) h1 h2 (by simp) (fun d hd=>?_) fun i h0 h1=>?_
 ·obtain⟨b,_,rfl⟩:=aay.mp hd
  simp [Dt.deep]
 ·rw [aaG,aaG]
  exact .bl _
theorem Alike.texts {K:aae} {H:Hp} {a b:aaB} {bs:List Str} (h1:aL K H a (bs.map V.str)) (h2:aL K H b (bs.map V.str)):Alike K H (.ref a) (.ref b):=by
 refine .plain (ds:=bs.map Dt.str) h1 h2 (by simp) (fun d hd=>?_) fun i h0 h1=>?_
 ·obtain⟨b,_,rfl⟩:=aay.mp hd
  simp [Dt.deep]
 ·rw [aaG,aaG]
  exact .str _
end
end L2
namespace L2
open PySem PySem.Spec PyProof.Rows
section
variable {X:Cx}
end
end L2
namespace PySem
open Sem (wp)
section
variable {prog:aaS} {w:abg}
variable {A:abi} {E:aai→aan→Prop} {s:aan}
end
end PySem
namespace L2
open PySem PySem.Spec PyProof.Rows
section
variable {X:Cx} {pins:List (aaB × Obj)} {σ:St} {H:Hp} {s:aan} {a:aaB} {xs:List FE} {k:FK} {y:V} {u r:aai} {A:abi} {E:aai→aan→Prop}
end
section
variable {X:Cx} {o i e f value:Expr} {pos pos' RH apos cpos:Pos} {td ty tv tz:TE}
end
end L2
namespace L2
open PySem PySem.Spec PyProof.Rows
section
variable {X:Cx} {pins:List (aaB × Obj)} {σ:St} {H:Hp} {s:aan} {a it l:aaB} {ys:List V} {its:List aai} {ps:List (Key × V)}
end
end L2
namespace L2
open PySem PySem.Spec PyProof.Rows
section
variable {X:Cx}
end
end L2
namespace Bk
section
variable {α:Type} [DecidableEq α]
end
end Bk
namespace Bk
open PySem L2 cR
deriving instance DecidableEq for Fc
def qh (ks:List Kd) (f:Fc):Bool:=decide (f.k∈fU ks)
def Refs (Cs:Nat→aaB) (n:Nat) (H:Hp) (E:XK):Prop:=n≠0→∀H',ai H H'→E (.ref (Cs n)) none H'
theorem Refs.sm {Cs:Nat→aaB} {n:Nat} {H H':Hp} {E:XK} (s:ai H H') (h:Refs Cs n H E):Refs Cs n H' E:=fun e H2 s2=>h e H2 (ai.trans s s2)
def y3 (K:aae) (C:aaB):Sp:=fun vs H Q E=>∃(ll lf:aaB) (ls:List Cs) (ts:List Fc),vs=[.ref ll,.ref lf]∧H ll=some (.lst (ls.map tx))∧(∃Gi,H lf=some (.lst Gi)∧Paired (Fact K H) ts Gi)∧(∀f∈ts,FS f) ∧
 (ts.any (fun f=>decide (f.k∈ls))=true→Ref C H E)∧(ts.any (fun f=>decide (f.k∈ls))=false→Q .cB H)
end Bk
namespace L2
open PySem PySem.Spec PyProof.Rows Bk
end L2
namespace Bk
open PySem L2 cR
end Bk
namespace Bk
open PySem L2 cR
end Bk
namespace Bk
open PySem L2 cR
end Bk
namespace Bk
open PySem L2 cR
theorem vG {K:aae} {H:Hp}:∀{as:List Str} {ys:List V},as.length=ys.length→(∀i (h0:i<(Tr.toDs (as.map Tr.str)).length) (h1:i<ys.length),uc K H (Tr.toDs (as.map Tr.str))[i] ys[i])→ys=as.map V.str
 | [],[],_,_=>rfl
 | [],_::_,h,_=>by cases h
 | _::_,[],h,_=>by cases h
 | a::as,y::ys,h,hd=>by
  have h0:uc K H (Dt.str a) y:=by
   have z:=hd 0 (by simp [Tr.toDs]) (by simp)
   simpa [Tr.toDs,Tr.toD] using z
  have e:y=.str a:=by cases h0;rfl
  have ih:=vG (K:=K) (H:=H) (as:=as) (ys:=ys) (by simpa using h) fun i h0 h1=>by
   have z:=hd (i+1) (by simpa [Tr.toDs] using h0) (by simpa using h1)
   simpa [Tr.toDs] using z
  rw [e,ih]
  rfl
end Bk
namespace Bk
open PySem L2 cR
end Bk
namespace Bk
open PySem L2 cR
end Bk
namespace Bk
open PySem L2 cR
end Bk
namespace Bk
open PySem L2 cR
end Bk
namespace Bk
open PySem L2 cR
end Bk
namespace Bk
open PySem L2 cR
end Bk
namespace R3
variable (Sv sm:Nat→Bool)
structure Sg:Prop where
 n32:Sv 32=false
 n40:Sv 40=false
 n41:Sv 41=false
 n44:Sv 44=false
variable (S:Sg Sv)
include S
end R3
namespace Bk
open PySem L2 cR
end Bk
namespace Bk
open PySem L2 cR
def aA (g:Fc):Cs:=if g.as=[] then g.k else ((g.k++[40])++fS 44 g.as)++[41]
def bA:List Cs→Cs
 | []=>[]
 | [a]=>a
 | a::r=>a++44::32::bA r
theorem CZ:∀(ls:List Str),(ac0 (aaf ", ") ls).cps.toList=bA (ls.map fun s=>s.cps.toList)
 | []=>rfl
 | [a]=>rfl
 | a::b::r=>by
  have ih:=CZ (b::r)
  show((a++(aaf ", "))++ac0 (aaf ", ") (b::r)).cps.toList=_
  rw [aby,aby,ih]
  have e:(aaf ", ").cps.toList=[44,32]:=by decide +kernel
  rw [e]
  show(a.cps.toList++[44,32])++_=a.cps.toList++44::32::_
  simp
theorem jG (ls:List Cs):adz (aaf ", ") (ls.map S)=S (bA ls):=by
 show acX (aaf ", ") _=_
 rw [acs,← vp (ac0 (aaf ", ") (ls.map S)),CZ,abz]
 have e:((fun s:Str=>s.cps.toList) ∘ S)=id:=by
  funext p
  exact bH p
 rw [e,acr]
structure FG (g:Fc):Prop where
 k:a6 g.k=true
 as:∀a∈g.as,aD a=true
 n:g.as.length≤4
def Ml (g:Fc):List Cs:=if g.as=[] then [g.k] else g.k::[40]::between g.as
theorem Gk {g:Fc} (h:FG g):lK (Ml g) g:=by
 unfold Ml
 by_cases e:g.as=[]
 ·rw [if_pos e]
  have z:=lK.bare h.k
  cases g
  cases e
  exact z
 ·rw [if_neg e]
  exact .args h.k e h.as
theorem jj {p:Cs} (h:aD p=true):p.all bp=true∧p≠[]:=by
 unfold aD at h
 simp only [aaW,decide_eq_true_eq] at h
 exact⟨h.2.2,fun e=>by rw [e] at h;simp at h⟩
theorem qi:∀(as:List Cs) (r:Cs),as≠[]→(∀a∈as,aD a=true)→toks (fS 44 as++41::r)=between as++toks r
 | [],_,h,_=>absurd rfl h
 | [a],r,_,h=>by
  have z:=jj (h a (aav ..))
  show toks (a++41::r)=a::[41]::toks r
  rw [d5 z.1 z.2 (show nN (41::r) from F5),m4 rfl]
 | a::b::t,r,_,h=>by
  have z:=jj (h a (aav ..))
  have ih:=qi (b::t) r (by simp) fun x hx=>h x (aam _ hx)
  show toks ((a++44::fS 44 (b::t))++41::r)=a::[44]::(between (b::t)++toks r)
  rw [aaT,acy,d5 z.1 z.2 (show nN (44::(fS 44 (b::t)++41::r)) from vm),m4 rfl,ih]
theorem y4 {g:Fc} (h:FG g) {r:Cs} (hr:nN r):toks (aA g++r)=Ml g++toks r:=by
 have hk:=h.k
 unfold a6 at hk
 rw [aaW] at hk
 have z:=jj hk.1
 unfold aA Ml
 by_cases e:g.as=[]
 ·rw [if_pos e,if_pos e,d5 z.1 z.2 hr]
  rfl
 ·rw [if_neg e,if_neg e,aaT,aaT,aaT]
  show toks (g.k++40::(fS 44 g.as++41::r))=g.k::[40]::(between g.as++toks r)
  rw [d5 z.1 z.2 (show nN (40::(fS 44 g.as++41::r)) from F4),m4 rfl,qi g.as r e h.as]
theorem C0:∀(fs:List Fc),fs≠[]→(∀g∈fs,FG g)→pZ (toks (bA (fs.map aA))) fs
 | [],h,_=>absurd rfl h
 | [g],_,h=>by
  have hg:=h g (aav ..)
  have z:=y4 hg (r:=[]) trivial
  rw [aaZ,show toks []=[] from rfl,aaZ] at z
  show pZ (toks (aA g)) [g]
  rw [z]
  exact .one (Gk hg)
 | g::g2::t,_,h=>by
  have hg:=h g (aav ..)
  have ih:=C0 (g2::t) (by simp) fun x hx=>h x (aam _ hx)
  show pZ (toks (aA g++44::32::bA ((g2::t).map aA))) (g::g2::t)
  rw [y4 hg (show nN (44::32::bA ((g2::t).map aA)) from vm),m4 rfl,eL]
  exact .more (Gk hg) ih
theorem y6 {f:Nat→Bool} (U3:f 44=true):∀(as:List Cs),(∀a∈as,a.all f=true)→(fS 44 as).all f=true
 | [],_=>rfl
 | [a],h=>h a (aav ..)
 | a::b::t,h=>by
  have ih:=y6 U3 (b::t) fun x hx=>h x (aam _ hx)
  show(a++44::fS 44 (b::t)).all f=true
  rw [abc,abl,ih,U3,h a (aav ..)]
  rfl
theorem qj:∀(as:List Cs),(∀a∈as,a.length≤12)→(fS 44 as).length≤as.length * 13
 | [],_=>abt _
 | [a],h=>by have:=h a (aav ..);show a.length≤1 * 13;omega
 | a::b::t,h=>by
  have ih:=qj (b::t) fun x hx=>h x (aam _ hx)
  have:=h a (aav ..)
  show(a++44::fS 44 (b::t)).length≤(b::t).length.succ * 13
  rw [aag,aar]
  omega
end Bk
namespace L2
open PySem PySem.Spec PyProof.Rows Bk
theorem Kb {tt:TT} {te:TE} {bu:List Nat} {σ:St} {H1:Hp} {Q:VK} {K:aae} {a:aaB} {xs:List V} {D:aaB} (hn:xs.length<aaj) (Pv:Nat→List V→Hp→Prop) (h0:Pv 0 [] (upd H1 D (.lst [])))
  (hl:∀i ys H,Pv i ys H→bT K H a xs) (hD:∀i ys H,Pv i ys H→H D=some (.lst ys)∧ys.length≤i)
  (hs:∀i ys H,i<xs.length→Pv i ys H→tt (cV σ (some (xs.getD i .cB)) bu) H fun b H2 =>
   if b=true then te (cV σ (some (xs.getD i .cB)) bu) H2 fun y H3=>H3 D=some (.lst ys)∧Pv (i+1) (ys++[y]) (upd H3 D (.lst (ys++[y])))
   else Pv (i+1) ys H2)
  (hd:∀ys H,Pv xs.length ys H→Q (.ref D) H):lE tt te bu σ Q (NB K a) H1 D :=
 uC (J:=NB K a) (Q:=Q) (D:=D) (H1:=H1) xs.length hn (fun i=>xs.getD i .cB) Pv h0 (fun ys H p=>⟨xs,hl _ ys H p,aaz _⟩)
  (fun i ys H p h=>⟨xs,xs[i],hl i ys H p,by simp [h]⟩) (fun i ys H x H' p h y=>⟨y.1,by
   have z:=y.2 xs (hl i ys H p)
   rw [Gd9,z] <;> rfl⟩) hD hs hd
section
variable {te:TE} {bu:List Nat} {σ:St} {H1:Hp} {Q:VK} {K:aae} {a:aaB} {xs:List V} {D:aaB} {gs:List V}
theorem y7 {i:Nat} {ys:List V} {H':Hp} (hn:gs.length=xs.length) (xr:H1 D=none) (he:∀(i:Nat) x g H' R,xs[i]?=some x→gs[i]?=some g→ai H1 H'→(∀ig,ai H' ig→R g ig)→te (cV σ (some x) bu) H' R) (hi:i<xs.length)
  (p:ai H1 H'∧H' D=some (.lst ys)∧ys=gs.take i):xq (cV σ (some (xs.getD i .cB)) bu) H' fun b H2 =>
   if b=true then te (cV σ (some (xs.getD i .cB)) bu) H2 fun y H3=>H3 D=some (.lst ys)∧(ai H1 (upd H3 D (.lst (ys++[y])))∧upd H3 D (.lst (ys++[y])) D=some (.lst (ys++[y]))∧ys++[y]=gs.take (i+1))
   else (ai H1 H2∧H2 D=some (.lst ys)∧ys=gs.take (i+1)):=by
 have hx:xs.getD i .cB=xs[i]:=by rw [Gd9,Ge9 hi];rfl
 rw [hx]
 unfold xq
 simp only [if_true]
 have hig:i<gs.length:=by omega
 refine he i _ gs[i] _ _ (Ge9 hi) (Ge9 hig) p.1 fun H3 s3=>?_
 refine⟨s3 _ _ p.2.1,ai.aR (ai.trans p.1 s3) xr _,ae,?_⟩
 rw [p.2.2,aak hig]
theorem Kc (hn:gs.length=xs.length) (hz:xs.length<aaj) (xr:H1 D=none) (hl:aL K H1 a xs) (he:∀(i:Nat) x g H' R,xs[i]?=some x→gs[i]?=some g→ai H1 H'→(∀ig,ai H' ig→R g ig)→te (cV σ (some x) bu) H' R)
  (hd:∀H',ai H1 H'→H' D=some (.lst gs)→Q (.ref D) H'):lE xq te bu σ Q (IJ K a) H1 D:=by
 refine i9 (K:=K) (a:=a) (xs:=xs) hz (fun i ys H'=>ai H1 H'∧H' D=some (.lst ys)∧ys=gs.take i) ⟨aj xr _,ae,rfl⟩ (fun i ys H' p=>p.1.seq hl) (fun i ys H' p=>⟨p.2.1,by rw [p.2.2,aaA];omega⟩) (fun i ys H' hi p=>y7 hn xr he hi p) (fun ys H' p=>?_)
 have z:=p.2.2
 rw [abm (by omega)] at z
 exact hd H' p.1 (z ▸ p.2.1)
theorem Ke (hn:gs.length=xs.length) (hz:xs.length<aaj) (xr:H1 D=none) (hl:bT K H1 a xs) (he:∀(i:Nat) x g H' R,xs[i]?=some x→gs[i]?=some g→ai H1 H'→(∀ig,ai H' ig→R g ig)→te (cV σ (some x) bu) H' R)
  (hd:∀H',ai H1 H'→H' D=some (.lst gs)→Q (.ref D) H'):lE xq te bu σ Q (NB K a) H1 D:=by
 refine Kb (K:=K) (a:=a) (xs:=xs) hz (fun i ys H'=>ai H1 H'∧H' D=some (.lst ys)∧ys=gs.take i) ⟨aj xr _,ae,rfl⟩ (fun i ys H' p=>hl.same p.1) (fun i ys H' p=>⟨p.2.1,by rw [p.2.2,aaA];omega⟩) (fun i ys H' hi p=>y7 hn xr he hi p) (fun ys H' p=>?_)
 have z:=p.2.2
 rw [abm (by omega)] at z
 exact hd H' p.1 (z ▸ p.2.1)
end
end L2
namespace L2
open PySem PySem.Spec PyProof.Rows
section
variable {X:Cx}
end
end L2
namespace L2
open PySem PySem.Spec PyProof.Rows
section
variable {X:Cx} {pins:List (aaB × Obj)} {σ:St} {H:Hp} {s:aan} {a it l:aaB} {ks:List Str} {its:List aai}
end
end L2
namespace Un
section
variable {α:Type} [DecidableEq α] (great:α→Bool) (lt:α→α→Bool)
variable {great lt}
end
end Un
namespace Bk
open PySem L2 cR
end Bk
namespace Bk
open PySem L2 cR
end Bk
namespace Bk
open PySem L2 cR
end Bk
namespace L2
open PySem PySem.Spec PyProof.Rows Bk
end L2
namespace Bk
open PySem L2 cR
end Bk
namespace Bk
open PySem L2 cR
end Bk
namespace Bk
open PySem L2 cR
end Bk
namespace Bk
end Bk
namespace Bk
open PySem L2 cR
end Bk
namespace Bk
open PySem L2 cR
end Bk
namespace Bk
open PySem L2 cR
structure FN (g:Fc):Prop where
 k:aD g.k=true
 as:∀a∈g.as,aD a=true
 n:g.as.length≤4
theorem FN.PV {g:Fc} (h:FN g):g.k.length≤12:=(eO h.k).2
theorem FN.Mm {g:Fc} (h:FN g):∀a∈g.as,a.length≤12:=fun a ha=>(eO (h.as a ha)).2
theorem se {g:Fc} (h:FN g):(aA g).length≤70:=by
 have z:=qj g.as h.Mm
 have z2:=h.PV
 have z3:=h.n
 unfold aA
 by_cases e:g.as=[]
 ·rw [if_pos e];omega
 ·rw [if_neg e]
  simp only [aag,aar,abb]
  omega
def Gm (K:aae):Sp:=fun vs H Q _=>∃(v:V) (g:Fc),vs=[v]∧Fact K H g v∧FN g∧Q (tx (aA g)) H
def Kf (K:aae):Sp:=fun vs H Q _=>∃(a:aaB) (xs:List V) (fs:List Fc),vs=[.ref a]∧(aL K H a xs∨bT K H a xs)∧Paired (Fact K H) fs xs∧(∀g∈fs,FN g)∧fs.length≤63∧∀H',ai H H'→Q (tx (bA (fs.map aA))) H'
end Bk
namespace L2
open PySem PySem.Spec PyProof.Rows Bk
end L2
namespace Bk
open PySem L2 cR
end Bk
namespace Bk
open PySem L2 cR
theorem Mn (ns:List Cs) (k:Nat):fQ (ns.map tx) none (some (k:Int))=(ns.take k).map tx:=by
 unfold fQ
 have e1:HT.dQ (ns.map tx).length 0 none=0:=rfl
 have e2:HT.dQ (ns.map tx).length (ns.map tx).length (some (k:Int))=min k (ns.map tx).length:=HT.pK _ _ k
 rw [e1,e2,acY,aeV,← aeH,Lm9]
 by_cases h:k≤ns.length
 ·rw [acP h]
 ·rw [Nat.min_eq_right (by omega),abm (aaz _),abm (by omega)]
end Bk
namespace Bk
open PySem L2 cR
theorem Ae:∀(ns:List Cs) {acc:List Cs} (x:Cs),x∈kn acc ns↔x∈acc∨(x∈ns∧great x=true)
 | [],acc,x=>by simp [kn]
 | n::ns,acc,x=>by
  show x∈kn (Gj acc n) ns↔_
  rw [Ae ns,aaN]
  have e:x∈Gj acc n↔x∈acc∨(x=n∧great x=true):=by
   unfold Gj
   split
   ·rename_i g
    split
    ·rename_i hm
     exact⟨.inl,fun z=>z.elim id fun⟨e,_⟩=>e ▸ hm⟩
    ·rw [aaq,aal]
     exact⟨fun z=>z.elim .inl fun e=>.inr ⟨e,e ▸ g⟩,fun z=>z.elim .inl fun e=>.inr e.1⟩
   ·rename_i g
    exact⟨.inl,fun z=>z.elim id fun⟨e,g'⟩=>absurd (e ▸ g') g⟩
  rw [e]
  constructor
  ·rintro((h|⟨h,g⟩)|⟨h,g⟩)
   ·exact .inl h
   ·exact .inr ⟨.inl h,g⟩
   ·exact .inr ⟨.inr h,g⟩
  ·rintro(h|⟨h|h,g⟩)
   ·exact .inl (.inl h)
   ·exact .inl (.inr ⟨h,g⟩)
   ·exact .inr ⟨h,g⟩
end Bk
namespace Bk
open PySem L2 cR
end Bk
namespace Bk
open PySem L2 cR
end Bk
namespace Bk
open PySem L2 cR
theorem Kg {xs:List V} {k:Nat} (h:k≤xs.length):fQ xs none (some (k:Int))=xs.take k:=by
 unfold fQ
 have e1:HT.dQ xs.length 0 none=0:=rfl
 have e2:HT.dQ xs.length xs.length (some (k:Int))=min k xs.length:=HT.pK _ _ k
 rw [e1,e2,acY,aeV,acP h]
theorem ip {α β:Type} {R:α→β→Prop}:∀(k:Nat) {xs:List α} {ys:List β},Paired R xs ys→Paired R (xs.take k) (ys.take k)
 | 0,_,_,_=>by rw [acx,acx];exact .nil
 | _+1,_,_,.nil=>.nil
 | k+1,_,_,.cons h t=>.cons h (ip k t)
theorem ir {α β:Type} {R:α→β→Prop}:∀(k:Nat) {xs:List α} {ys:List β},Paired R xs ys→Paired R (xs.drop k) (ys.drop k)
 | 0,_,_,h=>h
 | _+1,_,_,.nil=>.nil
 | k+1,_,_,.cons _ t=>ir k t
end Bk
namespace Bk
open PySem L2 cR
theorem C6 (cur:Cs) (x y:List Cs):shut cur (x++y)=shut cur x++y:=by
 unfold shut
 split <;> rfl
def Mo (c:Nat) (ts:List Cs):List Cs:=if c=32 then ts else [c]::ts
theorem sf {c:Nat} (hc:bp c=false) (r:Cs):∀(a cur:Cs),b7 (a++c::r) cur=b7 a cur++Mo c (toks r)
 | [],cur=>by
  show(if bp c=true then b7 r (cur++[c]) else shut cur (if c=32 then b7 r [] else [c]::b7 r []))=shut cur []++Mo c (toks r)
  rw [hc,if_neg aaJ,← C6,abD]
  rfl
 | d::a,cur=>by
  show(if bp d=true then b7 (a++c::r) (cur++[d]) else shut cur (if d=32 then b7 (a++c::r) [] else [d]::b7 (a++c::r) []))=(if bp d=true then b7 a (cur++[d]) else shut cur (if d=32 then b7 a [] else [d]::b7 a []))++_
  rw [sf hc r a (cur++[d]),sf hc r a []]
  by_cases hd:bp d=true
  ·rw [if_pos hd,if_pos hd]
  ·rw [if_neg hd,if_neg hd,← C6]
   by_cases h2:d=32
   ·rw [if_pos h2,if_pos h2]
   ·rw [if_neg h2,if_neg h2,acy]
theorem C7 {c:Nat} (hc:bp c=false) (a r:Cs):toks (a++c::r)=toks a++Mo c (toks r):=sf hc r a []
theorem jH (a r:Cs):toks (a++32::r)=toks a++toks r:=C7 pW a r
theorem Gn {c:Nat} (hc:bp c=false) (h:c≠32) (a r:Cs):toks (a++c::r)=toks a++[c]::toks r:=by
 rw [C7 hc]
 unfold Mo
 rw [if_neg h]
def fV (sep:Cs):List Cs→Cs
 | []=>[]
 | [a]=>a
 | a::r=>a++(sep++fV sep r)
theorem y8 (sep:Str):∀(ls:List Str),(ac0 sep ls).cps.toList=fV sep.cps.toList (ls.map fun s=>s.cps.toList)
 | []=>rfl
 | [a]=>rfl
 | a::b::r=>by
  have ih:=y8 sep (b::r)
  show((a++sep)++ac0 sep (b::r)).cps.toList=_
  rw [aby,aby,ih,aaT]
  rfl
theorem qk (sep:Cs) (ls:List Cs):adz (S sep) (ls.map S)=S (fV sep ls):=by
 show acX (S sep) _=_
 rw [acs,← vp (ac0 (S sep) (ls.map S)),y8,abz,bH]
 have e:((fun s:Str=>s.cps.toList) ∘ S)=id:=by
  funext p
  exact bH p
 rw [e,acr]
theorem vI:∀ls,bA ls=fV [44,32] ls
 | []=>rfl
 | [a]=>rfl
 | a::b::r=>by
  show a++44::32::bA (b::r)=a++([44,32]++fV [44,32] (b::r))
  rw [vI (b::r)]
  rfl
theorem ni {c:Nat} (hc:bp c=false) (h:c≠32):∀ls,toks (fV [c,32] ls)=glue [c] (ls.map toks)
 | []=>rfl
 | [a]=>rfl
 | a::b::r=>by
  show toks (a++c::32::fV [c,32] (b::r))=toks a++[c]::glue [c] ((b::r).map toks)
  rw [Gn hc h,eL,ni hc h (b::r)]
theorem eZ {p:Cs} (h:aD p=true):toks p=[p]:=by
 have z:=jj h
 have e:=d5 z.1 z.2 (r:=[]) trivial
 rw [aaZ] at e
 exact e
def bF (k:Lk):Cs:=k.l++32::((if k.same=true then iD else eF)++32::k.r)
def bL (p:Cs × Cs):Cs:=p.1++32::61::32::p.2
theorem Hi {k:Lk} (h:aD k.l=true∧aD k.r=true):toks (bF k)=je k:=by
 unfold bF je
 rw [jH,jH,eZ h.1,eZ h.2]
 cases k.same <;> rfl
theorem Sw:bp 61=false:=by decide +kernel
theorem Mp:bp 59=false:=by decide +kernel
theorem Kh:bp 58=false:=by decide +kernel
theorem Hj {p:Cs × Cs} (h:aD p.1=true∧aD p.2=true):toks (bL p)=jf p:=by
 unfold bL jf
 rw [jH,eZ h.1,vv Sw (by decide),eL,eZ h.2]
 rfl
def aZ (w:Cs) (m:List Cs):List Cs:=if m=[] then [] else [w++32::bA m]
def cN (r:Rl):List Cs:=aZ bJ (r.take.map aA)++(aZ bR (r.keep.map aA)++(aZ bN (r.aO.map bF)++(aZ dA (r.put.map aA)++aZ cn (r.tell.map bL))))
def aU (r:Rl):Cs:=dc++32::(r.title++58::32::fV [59,32] (cN r))
def N2 (n:Nat) (fs:List Fc):List Pr:=if fs=[] then [] else [⟨n,toks (bA (fs.map aA)),.fs fs⟩]
def Sx (ks:List Lk):List Pr:=if ks=[] then [] else [⟨2,glue [44] (ks.map je),.lk ks⟩]
def Sy (ps:List (Cs × Cs)):List Pr:=if ps=[] then [] else [⟨4,glue [44] (ps.map jf),.pr ps⟩]
def jk (r:Rl):List Pr:=N2 0 r.take++(N2 1 r.keep++(Sx r.aO++(N2 3 r.put++Sy r.tell)))
structure kW (r:Rl):Prop where
 t:a6 r.title=true
 f:∀g∈r.take++(r.keep++r.put),FG g
 l:∀k∈r.aO,aD k.l=true∧aD k.r=true
 p:∀p∈r.tell,aD p.1=true∧aD p.2=true
 hd:r.take++r.keep≠[]
 few:r.take.length≤20∧r.keep.length≤20∧r.aO.length≤20∧r.put.length≤20∧r.tell.length≤20
theorem fc:aD bJ=true∧aD bR=true∧aD bN=true∧aD dA=true∧aD cn=true∧aD dc=true∧aD iD=true∧aD eF=true:=by decide +kernel
theorem Af {n:Nat} {w:Cs} (hw:aD w=true) (e:wordAt n=w) (fs:List Fc):(aZ w (fs.map aA)).map toks=(N2 n fs).map fun x=>wordAt x.n::x.ps:=by
 unfold aZ N2
 by_cases h:fs=[]
 ·subst h;rfl
 ·rw [if_neg (by simpa using h),if_neg h]
  show [toks (w++32::bA (fs.map aA))]=[wordAt n::toks (bA (fs.map aA))]
  rw [jH,eZ hw,e]
  rfl
theorem Mq {ks:List Lk} (hk:∀k∈ks,aD k.l=true∧aD k.r=true):(aZ bN (ks.map bF)).map toks=(Sx ks).map fun x=>wordAt x.n::x.ps:=by
 unfold aZ Sx
 by_cases h:ks=[]
 ·subst h;rfl
 ·rw [if_neg (by simpa using h),if_neg h]
  show [toks (bN++32::bA (ks.map bF))]=[bN::glue [44] (ks.map je)]
  have e:(ks.map bF).map toks=ks.map je:=by
   rw [abz]
   exact adk fun k h=>Hi (hk k h)
  rw [jH,eZ fc.2.2.1,vI,ni (by decide +kernel) (by decide),e]
  rfl
theorem Mr {ps:List (Cs × Cs)} (hp:∀p∈ps,aD p.1=true∧aD p.2=true):(aZ cn (ps.map bL)).map toks=(Sy ps).map fun x=>wordAt x.n::x.ps:=by
 unfold aZ Sy
 by_cases h:ps=[]
 ·subst h;rfl
 ·rw [if_neg (by simpa using h),if_neg h]
  show [toks (cn++32::bA (ps.map bL))]=[cn::glue [44] (ps.map jf)]
  have e:(ps.map bL).map toks=ps.map jf:=by
   rw [abz]
   exact adk fun p h=>Hj (hp p h)
  rw [jH,eZ fc.2.2.2.2.1,vI,ni (by decide +kernel) (by decide),e]
  rfl
theorem y9 {r:Rl} (h:kW r):toks (aU r)=gI r.title (jk r):=by
 have ht:=h.t
 unfold a6 at ht
 rw [aaW] at ht
 unfold aU gI
 rw [jH,eZ fc.2.2.2.2.2.1,Gn Kh (by decide),eZ ht.1,eL,ni Mp (by decide)]
 have e:(cN r).map toks=(jk r).map fun x=>wordAt x.n::x.ps:=by
  unfold cN jk
  rw [aat,aat,aat,aat,aat,aat,aat,aat,Af (n:=0) fc.1 rfl,Af (n:=1) fc.2.1 rfl,Mq h.l,Af (n:=3) fc.2.2.2.1 rfl,Mr h.p]
 rw [e]
 rfl
theorem Ki (r:Rl):ue r.title (jk r)=r:=by
 obtain⟨t,a,b,c,d,e⟩:=r
 cases a <;> cases b <;> cases c <;> cases d <;> cases e <;> rfl
theorem Ms (r:Rl):NV 0 (jk r):=by
 obtain⟨t,a,b,c,d,e⟩:=r
 cases a <;> cases b <;> cases c <;> cases d <;> cases e <;> simp [jk,N2,Sx,Sy,NV]
end Bk
namespace Bk
open PySem L2 cR
def ET (c:Nat):Bool:=bp c || (c == 40 || (c == 41 || (c == 44 || (c == 32 || c == 61))))
theorem N3 {c:Nat} (h:ET c=true):uE eE c=true:=by
 unfold ET at h
 simp only [acS,beq_iff_eq] at h
 rcases h with h|h|h|h|h|h
 ·exact JX h
 all_goals subst h;decide +kernel
theorem PX:ET 59=false:=by decide +kernel
theorem PY:uE eE 10=false:=by decide +kernel
theorem PZ:uE eE 35=false:=by decide +kernel
theorem EU {f g:Nat→Bool} (h:∀c,f c=true→g c=true) {x:Cs} (hx:x.all f=true):x.all g=true:=by
 rw [aa4] at hx ⊢
 exact fun c hc=>h c (hx c hc)
theorem Kj {f:Nat→Bool} {c:Nat} (h:f c=false) {x:Cs} (hx:x.all f=true):c∉x:=fun hc=>by
 rw [aa4] at hx
 rw [hx c hc] at h
 cases h
theorem WQ {c:Nat} (h:bp c=true):ET c=true:=by
 unfold ET
 rw [h]
 rfl
theorem lS {p:Cs} (h:aD p=true):p.all ET=true:=EU (fun _=>WQ) (jj h).1
theorem sg {f:Nat→Bool} {sep:Cs} (hs:sep.all f=true):∀(ls:List Cs),(∀l∈ls,l.all f=true)→(fV sep ls).all f=true
 | [],_=>rfl
 | [a],h=>h a (aav ..)
 | a::b::r,h=>by
  have ih:=sg hs (b::r) fun l hl=>h l (aam _ hl)
  show(a++(sep++fV sep (b::r))).all f=true
  rw [abc,abc,h a (aav ..),hs,ih]
  rfl
theorem cu {p:Cs} (h:a6 p=true):aD p=true:=by
 unfold a6 at h
 rw [aaW] at h
 exact h.1
theorem Kk {g:Fc} (h:FG g):(aA g).all ET=true:=by
 unfold aA
 have hk:=lS (cu h.k)
 split
 ·exact hk
 ·rw [abc,abc,abc,hk,y6 (by decide +kernel) _ fun l hl=>lS (h.as l hl)]
  decide +kernel
theorem P0 {k:Lk} (h:aD k.l=true∧aD k.r=true):(bF k).all ET=true:=by
 unfold bF
 rw [abc,abl,abc,abl,lS h.1,lS h.2]
 cases k.same <;> decide +kernel
theorem P1 {k:Cs × Cs} (h:aD k.1=true∧aD k.2=true):(bL k).all ET=true:=by
 unfold bL
 rw [abc,abl,abl,abl,lS h.1,lS h.2]
 decide +kernel
theorem N4 {ls:List Cs} (h:∀l∈ls,l.all ET=true):(bA ls).all ET=true:=by
 rw [vI]
 exact sg (by decide +kernel) ls h
theorem vJ {w:Cs} (hw:aD w=true) {m:List Cs} (h:∀l∈m,l.all ET=true):∀l∈aZ w m,l.all ET=true:=by
 unfold aZ
 split
 ·intro l hl;cases hl
 ·intro l hl
  rw [aal.mp hl,abc,abl,lS hw,N4 h]
  decide +kernel
theorem kW.parts {r:Rl} (h:kW r):∀l∈cN r,l.all ET=true:=by
 have hf:∀fs:List Fc,(∀g∈fs,g∈r.take++(r.keep++r.put))→∀l∈fs.map aA,l.all ET=true:=fun fs hs l hl=>by
  obtain⟨g,hg,rfl⟩:=aay.mp hl
  exact Kk (h.f g (hs g hg))
 intro l hl
 unfold cN at hl
 simp only [aaq] at hl
 rcases hl with hl|hl|hl|hl|hl
 ·exact vJ fc.1 (hf _ fun g hg=>aas _ hg) l hl
 ·exact vJ fc.2.1 (hf _ fun g hg=>aah _ (aas _ hg)) l hl
 ·refine vJ fc.2.2.1 (fun l hl=>?_) l hl
  obtain⟨g,hg,rfl⟩:=aay.mp hl
  exact P0 (h.l g hg)
 ·exact vJ fc.2.2.2.1 (hf _ fun g hg=>aah _ (aah _ hg)) l hl
 ·refine vJ fc.2.2.2.2.1 (fun l hl=>?_) l hl
  obtain⟨g,hg,rfl⟩:=aay.mp hl
  exact P1 (h.p g hg)
theorem Mu {r:Rl} (h:kW r):(aU r).all (uE eE)=true:=by
 have e1:dc.all (uE eE)=true:=by decide +kernel
 have e2:uE eE 32=true:=by decide +kernel
 have e3:uE eE 58=true:=by decide +kernel
 unfold aU
 rw [abc,e1,abl,e2,abc,abl,abl,e2,e3,EU (fun _=>N3) (lS (cu h.t)),sg (f:=uE eE) (by decide +kernel) _ fun l hl=>EU (fun _=>N3) (h.parts l hl)]
 rfl
theorem Ag {m:Cs}:∀(qs:List (List Cs)) (x:Cs),x∈glue m qs→x=m∨∃q∈qs,x∈q
 | [],_,h=>by cases h
 | [q],x,h=>.inr ⟨q,aav ..,h⟩
 | q::a::r,x,h=>by
  have h:x∈q++m::glue m (a::r):=h
  rcases aaq.mp h with h|h
  ·exact .inr ⟨q,aav ..,h⟩
  ·rcases aaN.mp h with h|h
   ·exact .inl h
   ·rcases Ag (a::r) x h with h|⟨p,hp,h⟩
    ·exact .inl h
    ·exact .inr ⟨p,aam _ hp,h⟩
theorem uN {p:Cs} (h:aD p=true):[59]≠p:=fun e=>by
 rw [← e] at h
 exact absurd h (by decide +kernel)
theorem kW.rule {r:Rl} (h:kW r):Gd r.title (jk r):=by
 have hF:∀n (fs:List Fc),(∀g∈fs,FG g)→(n=0∨n=1∨n=3)→∀x∈N2 n fs,lN x.n x.ps x.p∧[59]∉x.ps:=fun n fs hf hn x hx=>by
  unfold N2 at hx
  split at hx
  ·cases hx
  ·rename_i h0
   rw [aal.mp hx]
   refine⟨.fs hn (C0 fs h0 hf),fun h9=>?_⟩
   have z:=nh (bA (fs.map aA)) [] [59] h9 59 (aal.mpr rfl)
   rcases z with z|z
   ·refine Kj PX (N4 fun l hl=>?_) z
    obtain⟨g,hg,rfl⟩:=aay.mp hl
    exact Kk (hf g hg)
   ·cases z
 have all:∀x∈jk r,lN x.n x.ps x.p∧[59]∉x.ps:=fun x hx=>by
  unfold jk at hx
  simp only [aaq] at hx
  rcases hx with hx|hx|hx|hx|hx
  ·exact hF 0 _ (fun g hg=>h.f g (aas _ hg)) (.inl rfl) x hx
  ·exact hF 1 _ (fun g hg=>h.f g (aah _ (aas _ hg))) (.inr (.inl rfl)) x hx
  ·unfold Sx at hx
   split at hx
   ·cases hx
   ·rename_i h0
    rw [aal.mp hx]
    refine⟨.lk h0 (by have:=h.few.2.2.1;omega) h.l,fun h9=>?_⟩
    rcases Ag _ _ h9 with e|⟨q,hq,e⟩
    ·exact absurd e (by decide)
    ·obtain⟨k,hk,rfl⟩:=aay.mp hq
     unfold je at e
     have hk:=h.l k hk
     simp only [aaN,adV,or_false] at e
     rcases e with e|e|e
     ·exact uN hk.1 e
     ·cases hs:k.same with
      | true=>rw [hs] at e;exact absurd e (by decide)
      | false=>rw [hs] at e;exact absurd e (by decide)
     ·exact uN hk.2 e
  ·exact hF 3 _ (fun g hg=>h.f g (aah _ (aah _ hg))) (.inr (.inr rfl)) x hx
  ·unfold Sy at hx
   split at hx
   ·cases hx
   ·rename_i h0
    rw [aal.mp hx]
    refine⟨.pr h0 (by have:=h.few.2.2.2.2;omega) h.p,fun h9=>?_⟩
    rcases Ag _ _ h9 with e|⟨q,hq,e⟩
    ·exact absurd e (by decide)
    ·obtain⟨k,hk,rfl⟩:=aay.mp hq
     unfold jf at e
     have hk:=h.p k hk
     simp only [aaN,adV,or_false] at e
     rcases e with e|e|e
     ·exact uN hk.1 e
     ·exact absurd e (by decide)
     ·exact uN hk.2 e
 have WR:∃x∈jk r,x.n=0∨x.n=1:=by
  have hd:=h.hd
  unfold jk
  cases e1:r.take with
  | cons a t=>exact⟨_,aas _ (aal.mpr rfl),.inl rfl⟩
  | nil =>
   cases e2:r.keep with
   | cons a t=>exact⟨_,aah _ (aas _ (aal.mpr rfl)),.inr rfl⟩
   | nil=>rw [e1,e2] at hd;exact absurd rfl hd
 refine⟨h.t,fun e=>?_,Ms r,fun x hx=>(all x hx).1,WR,fun x hx=>(all x hx).2⟩
 obtain⟨x,hx,_⟩:=WR
 rw [e] at hx
 cases hx
theorem Mv {x:Cs} (h:x.all (uE eE)=true) (ht:toks x≠[]):told x=true:=by
 have go:∀y:Cs,y.all (uE eE)=true→toks y≠[]→∃c r,y.dropWhile (· == 32)=c::r∧c≠35:=by
  intro y
  induction y with
  | nil=>intro _ h;exact absurd rfl h
  | cons c r ih =>
   intro hy G0
   rw [abl,aaW] at hy
   by_cases hc:c=32
   ·subst hc
    rw [eL] at G0
    rw [acB,if_pos (by decide)]
    exact ih hy.2 G0
   ·rw [acB,if_neg (by simpa using hc)]
    refine⟨c,r,rfl,fun e=>?_⟩
    rw [e,PZ] at hy
    exact absurd hy.1 (by decide)
 obtain⟨c,r,e,hc⟩:=go x h ht
 unfold told
 rw [e]
 simpa using hc
structure U4 (p q:Cs):Prop where
 t:toks q=toks p
 ok:p.all (uE eE)=true→q.all (uE eE)=true
 n:q.length≤p.length
theorem U4.trans {p q r:Cs} (a:U4 p q) (b:U4 q r):U4 p r:=⟨b.t.trans a.t,fun h=>b.ok (a.ok h),abj b.n a.n⟩
end Bk
namespace L2
open PySem PySem.Spec PyProof.Rows
section
variable {X:Cx} {k:Nat} {m:Str} {pos apos:Pos} {o:Expr} {ta:TE}
def P2 (P:aaS) (w:abg) (K:aae) (mg:Str→Option aai) (base:Heap) (m:Str) (k:Nat) (ta:TE) (t:TA):TE:=fun σ H Q=>ta σ H fun x H1=>∃a C dx fs ps sp,x=.ref a∧H1 a=some (.ins C dx fs)∧fs.lookup m=none ∧
 Met P w K mg base C m k ps sp∧t σ H1 fun vs H2=>sp (x::vs) H2 Q E0
theorem Hk {P:aaS} {w:abg} {K:aae} {mg:Str→Option aai} {base:Heap} {pl:Sem Bool} (hP:X.prog=P) (hw:X.w=w) (hK:X.K=K) (hm:X.mg=mg) (hb:X.base=base) (he:PE X o ta) (hr:dR k X.A)
  (ht:eval (.Call (.Attribute o m apos) [] [] pos) X.env=(do
   let ov ← eval o X.env
   standAt apos.atName
   let (f,first) ← holding [ov] (getMethod ov m pl)
   callWith pos f first (backTo pos (starEach [] X.env)) (backToKw pos (keywordEach [] X.env))):=by rfl) :
  PE X (.Call (.Attribute o m apos) [] [] pos) (P2 P w K mg base m k ta IS):=by
 subst hP hw hK hm hb
 exact G8 he hr ht
end
end L2
namespace Bk
open PySem L2 cR
def Gp:Sp:=fun vs H Q _=>∃(w m:Cs),vs=[tx w,tx m]∧w.length≤12∧m.length≤20000∧Q (tx (if m=[] then [] else w++32::m)) H
def gK (b:Bool):Cs:=if b=true then iD else eF
def nj (b:Bool):Sp:=fun vs H Q _=>∃p,vs=[.ref p]∧Q (tx (gK b)) H
def Gq (K:aae) (c:Cl):Sp:=fun vs H Q _=>∃(v:V) (H0:Hp) (r:Rl),vs=[v]∧ij K c H0 H r v∧kW r∧∀H',ai H H'→Q (tx (aU r)) H'
def C8 (K:aae) (c:Cl):Sp:=fun vs H Q _=>∃(v:V) (H0:Hp) (ks:List Kd) (rs:List Rl),vs=[v]∧yR K c H0 H ks rs v∧(∀k∈ks,k.n.length≤12∧k.c≤4)∧ks.length≤100∧(∀r∈rs,kW r)∧rs.length≤100∧∀H',ai H H'→Q (tx (cH (ks.map az++rs.map aU))) H'
theorem Mw:∀(ls:List Cs),(∀l∈ls,l≠[])→(bA ls=[]↔ls=[])
 | [],_=>⟨fun _=>rfl,fun _=>rfl⟩
 | [a],h=>⟨fun e=>absurd e (h a (aav ..)),fun e=>by cases e⟩
 | a::b::r,h=>⟨fun e=>by
   have e:a++44::32::bA (b::r)=[]:=e
   exact absurd (List.append_eq_nil_iff.mp e).1 (h a (aav ..)),fun e=>by cases e⟩
theorem lT {w:Cs} {m:List Cs} (h:∀l∈m,l≠[]):[if bA m=[] then [] else w++32::bA m].filter (fun x=>!decide (x=[]))=aZ w m:=by
 unfold aZ
 by_cases e:m=[]
 ·subst e;rfl
 ·rw [if_neg e,if_neg fun z=>e ((Mw m h).mp z)]
  rw [ab1,if_pos (by simp)]
  rfl
theorem Mx {g:Fc} (h:FG g):aA g≠[]:=by
 have z:=(jj (cu h.k)).2
 unfold aA
 split
 ·exact z
 ·simp
theorem My (k:Lk):bF k≠[]:=by unfold bF;simp
theorem Mz (p:Cs × Cs):bL p≠[]:=by unfold bL;simp
def dY (r:Rl):List (Cs × Cs):=[(bJ,bA (r.take.map aA)),(bR,bA (r.keep.map aA)),(bN,bA (r.aO.map bF)),(dA,bA (r.put.map aA)),(cn,bA (r.tell.map bL))]
def nP (x:Cs × Cs):Cs:=if x.2=[] then [] else x.1++32::x.2
theorem kW.rows {r:Rl} (h:kW r):((dY r).map nP).filter (fun x=>!decide (x=[]))=cN r:=by
 have hf:∀fs:List Fc,(∀g∈fs,g∈r.take++(r.keep++r.put))→∀l∈fs.map aA,l≠[]:=fun fs hs l hl=>by
  obtain⟨g,hg,rfl⟩:=aay.mp hl
  exact Mx (h.f g (hs g hg))
 have e:((dY r).map nP)=[if bA (r.take.map aA)=[] then [] else bJ++32::bA (r.take.map aA)]++([if bA (r.keep.map aA)=[] then [] else bR++32::bA (r.keep.map aA)]++([if bA (r.aO.map bF)=[] then [] else bN++32::bA (r.aO.map bF)]++([if bA (r.put.map aA)=[] then [] else dA++32::bA (r.put.map aA)]++[if bA (r.tell.map bL)=[] then [] else cn++32::bA (r.tell.map bL)]))):=rfl
 rw [e,abp,abp,abp,abp,lT (hf _ fun g hg=>aas _ hg),lT (hf _ fun g hg=>aah _ (aas _ hg)),lT (m:=r.aO.map bF) (fun l hl=>by obtain⟨k,_,rfl⟩:=aay.mp hl;exact My k),lT (hf _ fun g hg=>aah _ (aah _ hg)),lT (m:=r.tell.map bL) (fun l hl=>by obtain⟨k,_,rfl⟩:=aay.mp hl;exact Mz k)]
 rfl
theorem FG.fn {g:Fc} (h:FG g):FN g:=⟨cu h.k,h.as,h.n⟩
theorem dm {p:Cs} (h:aD p=true):p.length≤12:=by
 unfold aD at h
 simp only [aaW,decide_eq_true_eq] at h
 omega
theorem uO {k:Lk} (h:aD k.l=true∧aD k.r=true):(bF k).length≤32:=by
 have h1:=dm h.1
 have h2:=dm h.2
 have h3:(if k.same=true then iD else eF).length≤6:=by cases k.same <;> decide
 unfold bF
 simp only [aag,aar]
 omega
theorem uP {k:Cs × Cs} (h:aD k.1=true∧aD k.2=true):(bL k).length≤32:=by
 have h1:=dm h.1
 have h2:=dm h.2
 unfold bL
 simp only [aag,aar]
 omega
theorem uQ {g:Fc} (h:FG g):(aA g).length≤100:=by
 have:=se h.fn
 omega
theorem Ah {ls:List Cs} {B:Nat} (h:∀l∈ls,l.length≤B):(bA ls).length≤ls.length * (B+2):=by
 rw [vI]
 induction ls with
 | nil=>simp [fV]
 | cons a r ih =>
  have ha:=h a (aav ..)
  have ih:=ih fun l hl=>h l (aam _ hl)
  cases r with
  | nil=>show a.length≤1 * (B+2);omega
  | cons b t =>
   show(a++([44,32]++fV [44,32] (b::t))).length≤((b::t).length+1) * (B+2)
   rw [aag,aag,adT]
   simp only [aar,abb] at ih ⊢
   omega
theorem kW.EV {r:Rl} (h:kW r):∀x∈dY r,x.1.length≤12∧x.2.length≤2100:=by
 have hf:∀fs:List Fc,(∀g∈fs,g∈r.take++(r.keep++r.put))→fs.length≤20→(bA (fs.map aA)).length≤2100:=fun fs hs hl=>by
  have z:=Ah (ls:=fs.map aA) (B:=100) fun l hl=>by
   obtain⟨g,hg,rfl⟩:=aay.mp hl
   exact uQ (h.f g (hs g hg))
  rw [Lm9] at z
  omega
 have h1:=hf _ (fun g hg=>aas _ hg) h.few.1
 have h2:=hf _ (fun g hg=>aah _ (aas _ hg)) h.few.2.1
 have h4:=hf _ (fun g hg=>aah _ (aah _ hg)) h.few.2.2.2.1
 have h3:=Ah (ls:=r.aO.map bF) (B:=32) fun l hl=>by
  obtain⟨g,hg,rfl⟩:=aay.mp hl
  exact uO (h.l g hg)
 have h5:=Ah (ls:=r.tell.map bL) (B:=32) fun l hl=>by
  obtain⟨g,hg,rfl⟩:=aay.mp hl
  exact uP (h.p g hg)
 rw [Lm9] at h3 h5
 have f3:=h.few.2.2.1
 have f5:=h.few.2.2.2.2
 intro x hx
 unfold dY at hx
 simp only [aaN,adV,or_false] at hx
 rcases hx with rfl|rfl|rfl|rfl|rfl
 ·exact⟨(by show bJ.length≤12;decide),h1⟩
 ·exact⟨(by show bR.length≤12;decide),h2⟩
 ·refine⟨(by show bN.length≤12;decide),?_⟩
  show(bA (r.aO.map bF)).length≤2100
  omega
 ·exact⟨(by show dA.length≤12;decide),h4⟩
 ·refine⟨(by show cn.length≤12;decide),?_⟩
  show(bA (r.tell.map bL)).length≤2100
  omega
theorem jl {B:Nat}:∀(ls:List Cs),(∀l∈ls,l.length≤B)→(fV [59,32] ls).length≤ls.length * (B+2)
 | [],_=>by simp [fV]
 | [a],h=>by
  have:=h a (aav ..)
  show a.length≤1 * (B+2)
  omega
 | a::b::r,h=>by
  have ih:=jl (b::r) fun l hl=>h l (aam _ hl)
  have ha:=h a (aav ..)
  show(a++([59,32]++fV [59,32] (b::r))).length≤((b::r).length+1) * (B+2)
  rw [aag,aag,adT]
  simp only [aar,abb] at ih ⊢
  omega
theorem lU {w:Cs} {m:List Cs} (hw:w.length≤12) (hm:(bA m).length≤2100):∀l∈aZ w m,l.length≤2200:=by
 unfold aZ
 split
 ·intro l hl;cases hl
 ·intro l hl
  rw [aal.mp hl,aag,aar]
  omega
theorem aW (w:Cs) (m:List Cs):(aZ w m).length≤1:=by
 unfold aZ
 split <;> simp
theorem kW.Gr {r:Rl} (h:kW r):∀l∈cN r,l.length≤2200:=by
 have hr:=h.EV
 unfold dY at hr
 have h1:=hr (bJ,bA (r.take.map aA)) (by simp)
 have h2:=hr (bR,bA (r.keep.map aA)) (by simp)
 have h3:=hr (bN,bA (r.aO.map bF)) (by simp)
 have h4:=hr (dA,bA (r.put.map aA)) (by simp)
 have h5:=hr (cn,bA (r.tell.map bL)) (by simp)
 intro l hl
 unfold cN at hl
 simp only [aaq] at hl
 rcases hl with hl|hl|hl|hl|hl
 ·exact lU h1.1 h1.2 l hl
 ·exact lU h2.1 h2.2 l hl
 ·exact lU h3.1 h3.2 l hl
 ·exact lU h4.1 h4.2 l hl
 ·exact lU h5.1 h5.2 l hl
theorem kW.len {r:Rl} (h:kW r):(aU r).length≤11100:=by
 have hp:=h.Gr
 have hn:(cN r).length≤5:=by
  have p1:=aW bJ (r.take.map aA)
  have p2:=aW bR (r.keep.map aA)
  have p3:=aW bN (r.aO.map bF)
  have p4:=aW dA (r.put.map aA)
  have p5:=aW cn (r.tell.map bL)
  unfold cN
  simp only [aag]
  omega
 have z:=jl _ hp
 have ht:=dm (cu h.t)
 have e:dc.length=4:=rfl
 unfold aU
 rw [aag,e]
 simp only [aag,aar]
 have:(cN r).length * (2200+2)≤5 * 2202:=abO _ hn
 omega
end Bk
namespace Bk
open PySem L2 cR
structure KG (ks:List Kd):Prop where
 len:ks.length=4
 nd:(ks.map (·.n)).Nodup
 ok:∀k∈ks,a6 k.n=true∧k.c≤4
 yes:∃k∈ks,k.l=true
 no:∃k∈ks,k.l=false
def C9 (K:aae):Sp:=fun vs H Q _=>∃(c:Int) (l:aaB) (ns:List Int) (m:Nat),vs=[.int c,.ref l]∧aL K H l (ns.map V.int)∧1≤ns.length∧ns.length≤100∧m≤4∧(∀n∈ns,0≤n∧n≤m) ∧
 ∀(p:aaB) (ks:List Kd) (H':Hp),ai H H'→H p=none→nC K H' p ks→KG ks→(∀k∈ks,k.c≤m)→Q (.ref p) H'
def MA (ks:List Kd) (ns:List Cs) (f:Fc):Prop:=(∃k∈ks,f.k=k.n∧f.as.length=k.c)∧∀a∈f.as,a∈ns
def Gs (K:aae):Sp:=fun vs H Q _=>∃(lk ln:aaB) (c:Int) (ks:List Kd) (ns:List Cs),vs=[.ref lk,.ref ln,.int c]∧nC K H lk ks∧1≤ks.length∧ks.length≤100∧(∀k∈ks,k.c≤4)∧H ln=some (.lst (ns.map tx))∧1≤ns.length∧ns.length≤100 ∧
 ∀(v:V) (f:Fc) (H':Hp),ai H H'→Fact K H' f v→MA ks ns f→Q v H'
def Dc (K:aae):Sp:=fun vs H Q _=>∃(c:Int) (l:aaB) (ns:List Int) (m:Nat),vs=[.int c,.ref l]∧aL K H l (ns.map V.int)∧1≤ns.length∧ns.length≤100∧1≤m∧m≤4∧(∀n∈ns,0≤n∧n≤m) ∧
 ∀(p:aaB) (a b c d e:Nat) (H':Hp),ai H H'→H p=none→H' p=some (.lst [.int a,.int b,.int c,.int d,.int e])→a≤m∧b≤m∧c≤m∧d≤m∧e≤m→1≤a+b→Q (.ref p) H'
def Dd (K:aae):Sp:=fun vs H Q _=>∃(lk ln lc:aaB) (ks:List Kd) (ns:List Cs) (cs:List Int) (first many:Nat),vs=[.ref lk,.ref ln,.ref lc,.int first,.int many]∧nC K H lk ks∧1≤ks.length∧ks.length≤100∧(∀k∈ks,k.c≤4)∧H ln=some (.lst (ns.map tx))∧1≤ns.length∧ns.length≤100 ∧
 aL K H lc (cs.map V.int)∧1≤cs.length∧cs.length≤100∧first≤20∧many≤20 ∧
 ∀(p:aaB) (fs:List Fc) (H':Hp),ai H H'→H p=none→sd K H' p fs→fs.length=many→(∀f∈fs,MA ks ns f)→Q (.ref p) H'
def Ai (K:aae):Sp:=fun vs H Q _=>∃(lf:aaB) (fs:List Fc),vs=[.ref lf]∧sd K H lf fs∧fs.length≤100∧(∀f∈fs,f.as.length≤4∧∀a∈f.as,aD a=true) ∧
 ∀(p:aaB) (H':Hp),ai H H'→H p=none→H' p=some (.lst ((opens fs).map tx))→Q (.ref p) H'
def Kl (K:aae):Sp:=fun vs H Q _=>∃(ln lc:aaB) (ns:List Cs) (cs:List Int) (first k:Nat),vs=[.ref ln,.ref lc,.int first,.int k]∧H ln=some (.lst (ns.map tx))∧1≤ns.length∧ns.length≤100∧aL K H lc (cs.map V.int)∧1≤cs.length∧cs.length≤100∧first≤20∧k≤20 ∧
 ∀(t:aaB) (a b:Cs) (n:Nat) (H':Hp),ai H H'→a∈ns→b∈ns→n<2→bT K H' t [tx a,tx b,.int n]→Q (.ref t) H'
end Bk
namespace Bk
open PySem L2 cR
def nQ (K:aae) (H:Hp) (k:Lk) (v:V):Prop:=∃t,v=.ref t∧bT K H t [tx k.l,tx (gK k.same),tx k.r]
theorem nQ.sm {K:aae} {H H':Hp} (s:ai H H') {k:Lk} {v:V} (h:nQ K H k v):nQ K H' k v:=by
 obtain⟨t,e,h⟩:=h
 exact⟨t,e,h.same s⟩
def De (K:aae) (H:Hp) (l:aaB) (ks:List Lk):Prop:=∃vs,H l=some (.lst vs)∧Paired (nQ K H) ks vs
def Km (K:aae) (H:Hp) (l:aaB) (ps:List (Cs × Cs)):Prop:=∃vs,H l=some (.lst vs)∧Paired (Pair K H) ps vs
theorem De.sm {K:aae} {H H':Hp} (s:ai H H') {l:aaB} {ks:List Lk} (h:De K H l ks):De K H' l ks:=by
 obtain⟨vs,h1,h2⟩:=h
 exact⟨vs,s _ _ h1,ax h2 fun _ _ _=>nQ.sm s⟩
theorem Km.sm {K:aae} {H H':Hp} (s:ai H H') {l:aaB} {ks:List (Cs × Cs)} (h:Km K H l ks):Km K H' l ks:=by
 obtain⟨vs,h1,h2⟩:=h
 exact⟨vs,s _ _ h1,ax h2 fun _ _ _ ⟨t,e,z⟩=>⟨t,e,z.same s⟩⟩
def Sz (k:Kd):Bool:=!k.l
structure SA (ks:List Kd) (os ws:List Cs) (r:Rl):Prop where
 take:∀f∈r.take,MA (ks.filter Sz) (os++ws) f
 keep:∀f∈r.keep,MA ks (os++ws) f
 put:∀f∈r.put,MA (if r.take=[] then ks.filter (·.l) else ks) (opens (r.take++r.keep)++ws) f
 aO:∀k∈r.aO,k.l∈opens (r.take++r.keep)++ws∧k.r∈opens (r.take++r.keep)++ws
 tell:∀p∈r.tell,p.1∈opens (r.take++r.keep)++ws∧p.2∈opens (r.take++r.keep)++ws
 hd:1≤r.take.length+r.keep.length
 few:r.take.length≤4∧r.keep.length≤4∧r.aO.length≤4∧r.put.length≤4∧r.tell.length≤4
def Iq (m:Nat) (r:Rl):Prop:=r.take.length≤m∧r.keep.length≤m∧r.aO.length≤m∧r.put.length≤m∧r.tell.length≤m
def Df (K:aae) (H:Hp) (t:aaB) (r:Rl):Prop:=∃a b l g p,bT K H t [.ref a,.ref b,.ref l,.ref g,.ref p]∧sd K H a r.take∧sd K H b r.keep∧De K H l r.aO∧sd K H g r.put∧Km K H p r.tell
theorem Df.sm {K:aae} {H H':Hp} (s:ai H H') {t:aaB} {r:Rl} (h:Df K H t r):Df K H' t r:=by
 obtain⟨a,b,l,g,p,h0,h1,h2,h3,h4,h5⟩:=h
 exact⟨a,b,l,g,p,h0.same s,h1.sm s,h2.sm s,h3.sm s,h4.sm s,h5.sm s⟩
def lV (K:aae) (HB H:Hp) (t:aaB) (r:Rl):Prop:=∃a b l g p,bT K H t [.ref a,.ref b,.ref l,.ref g,.ref p]∧(HB a=none∧HB b=none∧HB l=none∧HB g=none∧HB p=none)∧sd K H a r.take∧sd K H b r.keep∧De K H l r.aO∧sd K H g r.put∧Km K H p r.tell
def Gu (K:aae):Sp:=fun vs H Q _=>∃(lk lo lw lc lm:aaB) (ks:List Kd) (os ws:List Cs) (cs ms:List Int) (m:Nat),vs=[.ref lk,.ref lo,.ref lw,.ref lc,.ref lm]∧nC K H lk ks∧KG ks∧H lo=some (.lst (os.map tx))∧H lw=some (.lst (ws.map tx))∧os.length≤10∧1≤ws.length∧ws.length≤10∧(∀n∈os++ws,aD n=true) ∧
 H lc=some (.lst (cs.map V.int))∧2≤cs.length∧cs.length≤100∧aL K H lm (ms.map V.int)∧1≤ms.length∧ms.length≤100∧1≤m∧m≤4∧(∀n∈ms,0≤n∧n≤m) ∧
 ∀(t:aaB) (r:Rl) (H':Hp),ai H H'→lV K H H' t r→SA ks os ws r→Iq m r→Q (.ref t) H'
theorem vK {fs:List Fc} (h:∀g∈fs,g.as.length≤4) (h2:fs.length≤8) (hk:kn [] (fs.flatMap (·.as))=opens fs):(opens fs).length≤32:=by
 have z:=Ad (fs.flatMap (·.as)) []
 rw [hk] at z
 have e:(fs.flatMap (·.as)).length≤4 * fs.length:=by
  clear z hk h2
  induction fs with
  | nil=>simp
  | cons a r ih =>
   have h1:=h a (aav ..)
   have ih:=ih fun g hg=>h g (aam _ hg)
   rw [abY,aag,aar]
   omega
 simp only [abb] at z
 omega
end Bk
namespace Bk
open PySem L2 cR
def Dg (K:aae):Sp:=fun vs H Q _=>∃(t:aaB) (r:Rl),vs=[tx r.title,.ref t]∧Df K H t r∧kW r∧∀H',ai H H'→Q (tx (aU r)) H'
end Bk
namespace Bk
open PySem L2 cR
end Bk
namespace Bk
open PySem L2 cR
end Bk
namespace Bk
open PySem L2 cR
end Bk
namespace Bk
open PySem L2 cR
def nS (r:Rl) (t:Cs):Rl:={ r with title:=t }
theorem Dh {fs:List Fc} {a:Cs} (hk:kn [] (fs.flatMap (·.as))=opens fs) (h:a∈opens fs):(∃f∈fs,a∈f.as)∧great a=true:=by
 rw [← hk] at h
 rcases(Ae _ a).mp h with h|⟨h,g⟩
 ·cases h
 ·obtain⟨f,hf,h⟩:=adW.mp h
  exact⟨⟨f,hf,h⟩,g⟩
section
variable {ks:List Kd} {os ws:List Cs} {r:Rl} {t:Cs}
theorem SA.names (hG:KG ks) (hN:∀n∈os++ws,aD n=true) (d:SA ks os ws r) (hk:kn [] ((r.take++r.keep).flatMap (·.as))=opens (r.take++r.keep)):∀n∈opens (r.take++r.keep)++ws,aD n=true:=fun n hn=>by
 rcases aaq.mp hn with h|h
 ·obtain⟨⟨f,hf,ha⟩,_⟩:=Dh hk h
  rcases aaq.mp hf with z|z
  ·exact hN n ((d.take f z).2 n ha)
  ·exact hN n ((d.keep f z).2 n ha)
 ·exact hN n (aah _ h)
theorem Kn {p:Prop} [Decidable p]:∀k∈(if p then ks.filter (·.l) else ks),k∈ks:=fun k hk=>by
 split at hk
 ·exact(abf.mp hk).1
 ·exact hk
end
end Bk
namespace Bk
open PySem L2 cR
theorem kW.WS {r:Rl} (h:kW r):Mh r:=by
 have few:=h.few
 have hf:∀f∈r.take++r.keep,FG f:=fun f hf=>h.f f (by
  rcases aaq.mp hf with z|z
  ·exact aas _ z
  ·exact aah _ (aas _ z))
 refine⟨fun f hf'=>?_,by rw [aag];omega,?_⟩
 ·have z:=hf f hf'
  exact⟨z.k,by have:=z.n;omega,z.as⟩
 ·have hl:(r.take++r.keep).length≤40:=by rw [aag];omega
  generalize r.take++r.keep=l at hf hl
  have z:(l.flatMap (·.as)).length≤4 * l.length:=by
   clear hl
   induction l with
   | nil=>simp
   | cons a s ih =>
    have h1:=(hf a (aav ..)).n
    have ih:=ih fun g hg=>hf g (aam _ hg)
    rw [abY,aag,aar]
    omega
  omega
theorem MB {r:Rl} (h:kW r):toks (aU r)≠[]:=by
 rw [y9 h]
 unfold gI
 simp
theorem Hl {k:Kd} (h:a6 k.n=true∧k.c≤4):(az k).all (uE eE)=true∧toks (az k)=vw k∧told (az k)=true∧10∉az k:=by
 rw [EL]
 exact⟨yY (by decide +kernel) (fun c h=>JX h) h.1 h.2,EM h.1 h.2 (by decide) (by decide),EN,JY h.1 h.2⟩
end Bk
namespace Bk
open PySem L2 cR
end Bk
namespace Bk
open PySem L2 cR
end Bk
namespace L2
open PySem PySem.Spec PyProof.Rows
def WT (K:aae):R2:=fun x y H Q=>∃a b xs,x=.ref a∧y=.ref b∧aL K H a xs∧aL K H b []∧Q (.bl (decide (xs=[]))) H
theorem Ko {X:Cx} (hu:X.A.units+64<cLine):rH X (compareOp .Eq) (WT X.K):=by
 intro pins s σ H x y v u Q I rx ry h
 obtain⟨a,b,xs,rfl,rfl,g1,g2,q⟩:=h
 cases rx
 cases ry
 obtain⟨its,Lp,⟨o1,n1,p1,c1,d1,f1⟩,_⟩:=I.list g1
 obtain⟨dS,Lq,⟨o2,n2,p2,c2,d2,f2⟩,_⟩:=I.list g2
 cases Lq
 have i1:s.heap.IsList a its.toArray:=⟨o1,p1,c1,n1,by assumption⟩
 have i2:s.heap.IsList b ([]:List aai).toArray:=⟨o2,p2,c2,n2,by assumption⟩
 cases Lp with
 | nil =>
  refine aeZ (e:=fun _=>true) i1 i2 rfl (by omega) (fun j j1=>absurd j1 (by simp)) _ _ _ _ ?_
  exact⟨.bl _,H,I,rfl,q⟩
 | cons z r =>
  refine SeqAt.RcAt.lists_lengths i1 i2 (by simp) (by omega) _ _ _ _ ?_
  exact⟨.bl _,H,I,rfl,q⟩
end L2
namespace Bk
open PySem L2 cR
def jI (r:Rl):Bool:=(de r).any fun a=>great a && !decide (a∈opens (r.take++r.keep))
def iu (ks:List Kd) (r:Rl):Prop:=r.take=[]∧r.put.any (fun f=>!qh ks f)=true
instance (ks:List Kd) (r:Rl):Decidable (iu ks r):=by unfold iu;infer_instance
def judge (ks:List Kd) (r:Rl):Nat:=if fu ks (r.take++r.keep++r.put)≠0 then fu ks (r.take++r.keep++r.put) else if r.take.any (qh ks)=true then 3 else if iu ks r then 4 else if jI r=true then 5 else 0
def ba (ks:List Kd):List Rl→Nat
 | []=>0
 | r::rs=>if judge ks r=0 then ba ks rs else judge ks r
theorem zc (ks:List Kd):∀fs,fu ks fs≤2
 | []=>abt _
 | f::r=>by
  unfold fu
  split
  ·exact zc ks r
  ·rcases J3 ks f with e|e|e <;> omega
theorem Di (ks:List Kd) (r:Rl):judge ks r≤5:=by
 have:=zc ks (r.take++r.keep++r.put)
 unfold judge
 repeat' split
 all_goals omega
theorem zd (ks:List Kd):∀rs,ba ks rs≤5
 | []=>abt _
 | r::rs=>by
  have:=Di ks r
  have:=zd ks rs
  unfold ba
  split <;> omega
theorem Dj {ks:List Kd} {rs:List Rl} {i:Nat} (h:i<rs.length):ba ks (rs.drop i)=if judge ks rs[i]=0 then ba ks (rs.drop (i+1)) else judge ks rs[i]:=by
 rw [abE h]
 rfl
theorem iE (ks:List Kd):∀rs:List Rl,ba ks (rs.filter fun r=>decide (judge ks r=0))=0
 | []=>rfl
 | r::rs=>by
  rw [ab1]
  split
  ·next h =>
   unfold ba
   rw [if_pos (of_decide_eq_true h)]
   exact iE ks rs
  ·exact iE ks rs
theorem FG.fs {g:Fc} (h:FG g):FS g:=⟨lQ (cu h.k),fun a ha=>lQ (h.as a ha),by have:=h.n;omega⟩
theorem Kq {fs:List Fc} (h:∀g∈fs,g.as.length≤4):(fs.flatMap (·.as)).length≤4 * fs.length:=by
 induction fs with
 | nil=>simp
 | cons a s ih =>
  have h1:=h a (aav ..)
  have ih:=ih fun g hg=>h g (aam _ hg)
  rw [abY,aag,aar]
  omega
theorem kW.WU {r:Rl} (h:kW r):(∀a∈de r,aD a=true)∧(de r).length≤1000:=by
 refine⟨fun a ha=>?_,?_⟩
 ·unfold de at ha
  simp only [aaq,adW] at ha
  rcases ha with⟨k,hk,z⟩|⟨f,hf,z⟩|⟨p,hp,z⟩
  ·rcases aaN.mp z with e|e
   ·rw [e];exact(h.l k hk).1
   ·rw [aal.mp e];exact(h.l k hk).2
  ·exact(h.f f (aah _ (aah _ hf))).as a z
  ·rcases aaN.mp z with e|e
   ·rw [e];exact(h.p p hp).1
   ·rw [aal.mp e];exact(h.p p hp).2
 ·have few:=h.few
  have two:∀{α:Type} (l:List α) (x y:α→Cs),(l.flatMap fun k=>[x k,y k]).length=2 * l.length:=fun l x y=>by
   induction l with
   | nil=>rfl
   | cons a s ih=>rw [abY,aag,ih];simp;omega
  have f4:=Kq (fs:=r.put) fun g hg=>(h.f g (aah _ (aah _ hg))).n
  unfold de
  rw [aag,aag,two,two]
  omega
theorem kW.facts {r:Rl} (h:kW r):∀f∈r.take++r.keep++r.put,FG f:=fun f hf=>h.f f (by
 simp only [aaq] at hf ⊢
 rcases hf with(hf|hf)|hf
 ·exact .inl hf
 ·exact .inr (.inl hf)
 ·exact .inr (.inr hf))
structure Gv (ls:List Cs) (its:List (Cs × It)):Prop where
 lines:ls.filter told=its.map (·.1)
 ok:∀x∈its,x.1.all (uE eE)=true∧toks x.1=x.2.ps∧Sk x.2
 nk:((fo (its.map (·.2))).map (·.n)).Nodup
 nr:((eT (its.map (·.2))).map (·.title)).Nodup
 few:its.length<10000
def zi (K:aae) (c:Cl) (C:aaB):Sp:=fun vs H Q E=>∃(H0:Hp) (ll:aaB) (v:V) (ks:List Kd) (r:Rl),vs=[.ref ll,v]∧H ll=some (.lst ((fU ks).map tx))∧ij K c H0 H r v∧(∀f∈r.put,FS f)∧(iu ks r→Ref C H E)∧(¬ iu ks r→Q .cB H)
def zj (K:aae) (c:Cl) (C:aaB):Sp:=fun vs H Q E=>∃(H0:Hp) (v:V) (r:Rl),vs=[v]∧ij K c H0 H r v∧kW r∧(jI r=true→Ref C H E)∧(jI r=false→∀H',ai H H'→Q .cB H')
def Dk (K:aae) (c:Cl) (Cs:Nat→aaB):Sp:=fun vs H Q E=>∃(H0:Hp) (lk lr:aaB) (ks:List Kd) (rs:List Rl) (kvs rK:List V),vs=[.ref lk,.ref lr]∧oE K c H0 H lk lr ks rs kvs rK∧(ks.map (·.n)).Nodup∧(∀r∈rs,kW r)∧Refs Cs (ba ks rs) H E ∧
 (ba ks rs=0→∀x dx fs H',ai H H'→H x=none→H' x=some (.ins c.book dx fs)→fs.lookup ("kinds":Str)=some (.ref lk)→fs.lookup ("rules":Str)=some (.ref lr)→Q (.ref x) H')
def Gw (K:aae) (c:Cl) (Cs:Nat→aaB):Sp:=fun vs H Q E=>∃(ls:List Bk.Cs) (its:List (Bk.Cs × It)),vs=[tx (cH ls)]∧ls≠[]∧(∀l∈ls,10∉l)∧(cH ls).length≤20000∧Gv ls its∧(∀r∈eT (its.map (·.2)),kW r)∧Refs Cs (ba (fo (its.map (·.2))) (eT (its.map (·.2)))) H E ∧
 (ba (fo (its.map (·.2))) (eT (its.map (·.2)))=0→∀v H',ai H H'→yR K c H H' (fo (its.map (·.2))) (eT (its.map (·.2))) v→Q v H')
end Bk
namespace L2
open PySem
theorem Aj {X:Cx} {K:aae} (hK:X.K=K):d8 X (.type "tuple") (fun xs H Q=>∃p ys,xs=[.ref p]∧((aL K H p ys∧∀l,H l=none→Q (.ref l) (upd H l (.tup ys)))∨(bT K H p ys∧Q (.ref p) H))):=by
 subst hK
 exact fJ
end L2
namespace Bk
open PySem L2 cR
structure Dl (b n:Nat) (r:Rl):Prop where
 f:∀g∈r.take++(r.keep++r.put),a6 g.k=true∧(∀a∈g.as,aD a=true)∧g.as.length≤b
 l:∀k∈r.aO,aD k.l=true∧aD k.r=true
 p:∀p∈r.tell,aD p.1=true∧aD p.2=true
 hd:r.take++r.keep≠[]
 few:Iq n r
theorem Dl.mono {b n b' n':Nat} {r:Rl} (h:Dl b n r) (hb:b≤b') (hn:n≤n'):Dl b' n' r:=by
 have z:=h.few
 unfold Iq at z
 refine⟨fun g hg=>⟨(h.f g hg).1,(h.f g hg).2.1,abj (h.f g hg).2.2 hb⟩,h.l,h.p,h.hd,?_⟩
 unfold Iq
 omega
theorem Dl.rlT {b n:Nat} {r:Rl} {t:Cs} (h:Dl b n r) (hb:b≤4) (hn:n≤20) (ht:a6 t=true):kW (nS r t):=by
 have z:=h.few
 unfold Iq at z
 refine⟨ht,fun g hg=>⟨(h.f g hg).1,(h.f g hg).2.1,abj (h.f g hg).2.2 hb⟩,h.l,h.p,h.hd,?_⟩
 show r.take.length≤20∧r.keep.length≤20∧r.aO.length≤20∧r.put.length≤20∧r.tell.length≤20
 omega
theorem SA.rlW {ks:List Kd} {os ws:List Cs} {r:Rl} {b n:Nat} (hG:KG ks) (hc:∀k∈ks,k.c≤b) (hN:∀m∈os++ws,aD m=true) (d:SA ks os ws r) (hk:kn [] ((r.take++r.keep).flatMap (·.as))=opens (r.take++r.keep)) (hf:Iq n r):Dl b n r:=by
 have N5:=d.names hG hN hk
 have one:∀{EW:List Kd} {ns:List Cs} {g:Fc},(∀k∈EW,k∈ks)→(∀m∈ns,aD m=true)→MA EW ns g→a6 g.k=true∧(∀a∈g.as,aD a=true)∧g.as.length≤b:=fun hs hm h=>by
  obtain⟨⟨k,hk,e1,e2⟩,ha⟩:=h
  exact⟨by rw [e1];exact(hG.ok k (hs k hk)).1,fun a h=>hm a (ha a h),by rw [e2];exact hc k (hs k hk)⟩
 refine⟨fun g hg=>?_,fun k hk=>⟨N5 _ (d.aO k hk).1,N5 _ (d.aO k hk).2⟩,fun k hk=>⟨N5 _ (d.tell k hk).1,N5 _ (d.tell k hk).2⟩,fun e=>?_,hf⟩
 ·rcases aaq.mp hg with z|z
  ·exact one (fun k hk=>(abf.mp hk).1) hN (d.take g z)
  ·rcases aaq.mp z with z|z
   ·exact one (fun k hk=>hk) hN (d.keep g z)
   ·exact one Kn N5 (d.put g z)
 ·have:=d.hd
  have z:=congrArg aco e
  rw [aag] at z
  have z:r.take.length+r.keep.length=0:=z
  omega
def cO (r:Rl):List Cs:=((r.aO.flatMap fun k=>[k.l,k.r])++(r.tell.flatMap fun p=>[p.1,p.2]))++opens r.put
theorem Kr {r:Rl} {q:Cs→Bool} (hk:kn [] (r.put.flatMap (·.as))=opens r.put):((cO r).any fun a=>great a && q a)=(de r).any fun a=>great a && q a:=by
 have e:((opens r.put).any fun a=>great a && q a)=(r.put.flatMap (·.as)).any fun a=>great a && q a:=by
  rw [← hk,ab0,abA,abA]
  constructor
  ·rintro⟨a,ha,h⟩
   rcases(Ae _ a).mp ha with z|z
   ·cases z
   ·exact⟨a,z.1,h⟩
  ·rintro⟨a,ha,h⟩
   have g:great a=true:=by
    rw [aaW] at h
    exact h.1
   exact⟨a,(Ae _ a).mpr (.inr ⟨ha,g⟩),h⟩
 unfold cO de
 simp only [ab8,e]
 cases (List.any (r.aO.flatMap fun k=>[k.l,k.r]) fun a=>great a && q a) <;> cases (List.any (r.put.flatMap (·.as)) fun a=>great a && q a) <;> cases (List.any (r.tell.flatMap fun p=>[p.1,p.2]) fun a=>great a && q a) <;> rfl
theorem MC {xs:List V} {i j:Nat} (hi:i≤j) (hj:j≤xs.length):fQ xs (some (i:Int)) (some (j:Int))=(xs.drop i).take (j - i):=by
 unfold fQ
 rw [show HT.dQ xs.length 0 (some (i:Int))=min i xs.length from HT.pK _ _ i,show HT.dQ xs.length xs.length (some (j:Int))=min j xs.length from HT.pK _ _ j,acP hj,acP (show i≤xs.length by omega)]
theorem tG {α β γ:Type} {g:α→γ} {R:γ→β→Prop}:∀{l1:List α} {l2:List β},Paired (fun a b=>R (g a) b) l1 l2→Paired R (l1.map g) l2
 | _,_,.nil=>.nil
 | _,_,.cons a r=>.cons a (tG r)
def U5 (K:aae) (H:Hp) (r:Rl) (v:V):Prop:=∃t,v=.ref t∧Df K H t r
def vL (K:aae):Sp:=fun vs H Q _=>∃(HB:Hp) (t:aaB) (r:Rl) (st:Cs) (n fa:Int),vs=[.ref t,tx st,.int n,.int fa]∧ai HB H∧lV K HB H t r∧Dl 2 2 r∧a6 st=true ∧
 ∀(t':aaB) (r':Rl) (H':Hp),ai H H'→lV K HB H' t' r'→Dl 3 4 r'→Q (.ref t') H'
def Gx (K:aae):Sp:=fun vs H Q _=>∃(HB:Hp) (t lk:aaB) (r:Rl) (ks:List Kd) (nm:Cs) (n:Int),vs=[.ref t,.ref lk,tx nm,.int n]∧ai HB H∧lV K HB H t r∧Dl 2 2 r∧nC K H lk ks∧KG ks∧(∀k∈ks,k.c≤2)∧aD nm=true ∧
 ∀(t':aaB) (r':Rl) (H':Hp),ai H H'→lV K HB H' t' r'→Dl 3 4 r'→Q (.ref t') H'
def vM (K:aae):Sp:=fun vs H Q _=>∃(HB:Hp) (t lk ls:aaB) (r:Rl) (ks:List Kd) (s0 s1:Cs) (n fa:Int),vs=[.ref t,.ref lk,.ref ls,.int n,.int fa]∧ai HB H∧lV K HB H t r∧Dl 2 2 r∧nC K H lk ks∧KG ks∧(∀k∈ks,k.c≤2)∧H ls=some (.lst [tx s0,tx s1])∧a6 s0=true∧aD s1=true ∧
 ∀(t':aaB) (r':Rl) (H':Hp),ai H H'→lV K HB H' t' r'→Dl 3 4 r'→Q (.ref t') H'
def Dm (K:aae):Sp:=fun vs H Q _=>∃(lk t:aaB) (ks:List Kd) (r:Rl),vs=[.ref lk,.ref t]∧nC K H lk ks∧KG ks∧Df K H t r∧Dl 4 4 r∧∀H',ai H H'→Q (.int (judge ks r)) H'
def gr (n:Nat):List V:=[.bl (n == 1),.bl (n == 2),.bl (n == 3),.bl (n == 4),.bl (n == 5),.bl true]
def zm (K:aae) (c:Cl):Sp:=fun vs H Q _=>∃(ls:List Bk.Cs) (its:List (Bk.Cs × It)),vs=[tx (cH ls)]∧ls≠[]∧(∀l∈ls,10∉l)∧(cH ls).length≤20000∧Gv ls its∧(∀r∈eT (its.map (·.2)),kW r) ∧
 ∀(t l:aaB) (v:V) (H':Hp),ai H H'→H' t=some (.tup [v,.ref l]) →
  (ba (fo (its.map (·.2))) (eT (its.map (·.2)))≠0→H' l=some (.lst (gr (ba (fo (its.map (·.2))) (eT (its.map (·.2))))))) →
  (ba (fo (its.map (·.2))) (eT (its.map (·.2)))=0→H' l=some (.lst [])∧∃H0,yR K c H0 H' (fo (its.map (·.2))) (eT (its.map (·.2))) v)→Q (.ref t) H'
theorem Dn {H H':Hp} {d:aaB} {o:HO} (s:ai H H'):ai (upd H d o) (upd H' d o):=fun b u h=>by
 by_cases e:b=d
 ·rw [e,ae] at h ⊢
  exact h
 ·rw [aH e] at h ⊢
  exact s b u h
theorem lV.upd {K:aae} {HB H:Hp} {t d:aaB} {r:Rl} {zs:List V} {u:HO} {o:HO} (hB:HB d=some u) (hd:H d=some (.lst zs)) (h:lV K HB H t r):Df K (upd H d o) t r:=by
 obtain⟨a,b,l,g,p,h0,⟨n1,n2,n3,n4,n5⟩,h1,h2,h3,h4,h5⟩:=h
 have ne:∀{x},HB x=none→x≠d:=fun n e=>by rw [e,hB] at n;cases n
 have fs:∀{x fs},HB x=none→sd K H x fs→sd K (L2.upd H d o) x fs:=fun n ⟨v,e,p⟩=>⟨v,by rw [aH (ne n)];exact e,ax p fun _ _ _=>m9 hd⟩
 refine⟨a,b,l,g,p,cT hd h0,fs n1 h1,fs n2 h2,?_,fs n4 h4,?_⟩
 ·obtain⟨v,e,p⟩:=h3
  exact⟨v,by rw [aH (ne n3)];exact e,ax p fun _ _ _ ⟨t,e,z⟩=>⟨t,e,cT hd z⟩⟩
 ·obtain⟨v,e,p⟩:=h5
  exact⟨v,by rw [aH (ne n5)];exact e,ax p fun _ _ _ ⟨t,e,z⟩=>⟨t,e,cT hd z⟩⟩
def zo (K:aae):Sp:=fun vs H Q _=>∃(a lk lo lw ls:aaB) (ns:List Int) (ks:List Kd) (os ws:List Cs) (s0 s1:Cs),vs=[.ref a,.ref lk,.ref lo,.ref lw,.ref ls]∧aL K H a (ns.map V.int)∧ns.length≤63∧nC K H lk ks∧KG ks∧(∀k∈ks,k.c≤2)∧H lo=some (.lst (os.map tx))∧H lw=some (.lst (ws.map tx))∧os.length=4∧ws.length=3∧(∀n∈os++ws,aD n=true) ∧
 H ls=some (.lst [tx s0,tx s1])∧a6 s0=true∧aD s1=true∧∀(p:aaB) (rs:List Rl) (vs':List V) (H':Hp),ai H H'→H' p=some (.lst vs')→Paired (U5 K H') rs vs'→(∀r∈rs,Dl 3 4 r)→rs.length≤6→Q (.ref p) H'
end Bk
namespace L2
open PySem PySem.Spec PyProof.Rows
section
variable {X:Cx} {st:Stmt} {rest:List Stmt} {t u:TS} {pos:Pos}
end
end L2
namespace L2
open PySem PySem.Spec PyProof.Rows
end L2
namespace L2
open PySem PySem.Spec PyProof.Rows
section
variable {X:Cx} {k:Nat} {ps:List Str} {sp:Sp} {x:Str} {p pos:Pos} {e:Expr} {es:List Expr} {t:TA} {f:aaB} {fd:aa9} {ds:List aai} {oA:List V} {CX:GX} {E:XK}
end
end L2
namespace L2
open PySem PySem.Spec PyProof.Rows
section
variable {X:Cx} {k:Nat} {ps:List Str} {sp:Sp} {x:Str} {p pos:Pos} {e:Expr} {es:List Expr} {t:TA} {te:TE}
end
end L2
namespace L2
open PySem PySem.Spec PyProof.Rows
section
variable {X:Cx} {e:Expr} {es:List Expr} {te:TE} {t:TA} {pos:Pos}
end
end L2
namespace Bk
open PySem L2 cR
theorem lW {w:Cs} {m:List Cs} {M:Nat} (hw:w.length≤4) (hm:m.length≤M) (hl:∀l∈m,l.length≤70):∀l∈aZ w m,l.length≤12+72 * M:=by
 have z:=Ah hl
 have z2:m.length * (70+2)≤M * 72:=abO _ hm
 unfold aZ
 split
 ·intro l hl;cases hl
 ·intro l hl
  rw [aal.mp hl,aag,aar]
  omega
theorem kW.WV {r:Rl} {M:Nat} (h:kW r) (f4:Iq M r):(aU r).length≤5 * (14+72 * M)+20:=by
 have hf:∀fs:List Fc,(∀g∈fs,g∈r.take++(r.keep++r.put))→∀l∈fs.map aA,l.length≤70:=fun fs hs l hl=>by
  obtain⟨g,hg,rfl⟩:=aay.mp hl
  exact se (h.f g (hs g hg)).fn
 have hp:∀l∈cN r,l.length≤12+72 * M:=fun l hl=>by
  unfold cN at hl
  simp only [aaq] at hl
  rcases hl with hl|hl|hl|hl|hl
  ·exact lW (by decide) (by rw [Lm9];exact f4.1) (hf _ fun g hg=>aas _ hg) l hl
  ·exact lW (by decide) (by rw [Lm9];exact f4.2.1) (hf _ fun g hg=>aah _ (aas _ hg)) l hl
  ·refine lW (by decide) (by rw [Lm9];exact f4.2.2.1) (fun l hl=>?_) l hl
   obtain⟨g,hg,rfl⟩:=aay.mp hl
   have:=uO (h.l g hg)
   omega
  ·exact lW (by decide) (by rw [Lm9];exact f4.2.2.2.1) (hf _ fun g hg=>aah _ (aah _ hg)) l hl
  ·refine lW (by decide) (by rw [Lm9];exact f4.2.2.2.2) (fun l hl=>?_) l hl
   obtain⟨g,hg,rfl⟩:=aay.mp hl
   have:=uP (h.p g hg)
   omega
 have hn:(cN r).length≤5:=by
  have p1:=aW bJ (r.take.map aA)
  have p2:=aW bR (r.keep.map aA)
  have p3:=aW bN (r.aO.map bF)
  have p4:=aW dA (r.put.map aA)
  have p5:=aW cn (r.tell.map bL)
  unfold cN
  simp only [aag]
  omega
 have z:=jl _ hp
 have ht:=dm (cu h.t)
 have e:dc.length=4:=rfl
 unfold aU
 rw [aag,e]
 simp only [aag,aar]
 have:(cN r).length * (12+72 * M+2)≤5 * (12+72 * M+2):=abO _ hn
 omega
inductive Mt where
 | k (k:Kd)
 | r (r:Rl)
def Mt.txt:Mt→Cs
 | .k x=>az x
 | .r x=>aU x
def Mt.it:Mt→It
 | .k x=>.kind x
 | .r x=>.rule x.title (jk x)
def Mt.Ok:Mt→Prop
 | .k x=>a6 x.n=true∧x.c≤4
 | .r x=>kW x
theorem Mt.line {m:Mt} (h:m.Ok):m.txt.all (uE eE)=true∧toks m.txt=m.it.ps∧Sk m.it∧toks m.txt≠[]:=by
 cases m with
 | k k =>
  obtain⟨z1,z2,_,_⟩:=Hl h
  refine⟨z1,z2,h,?_⟩
  show toks (az k)≠[]
  rw [z2]
  unfold vw
  simp
 | r r =>
  have h:kW r:=h
  refine⟨Mu h,y9 h,⟨h.rule,?_⟩,MB h⟩
  rw [Ki]
  exact h.WS
def Ks (f:Bool) (ks:List Kd) (rs:List Rl):List Mt:=if f=true then rs.map Mt.r++ks.map Mt.k else ks.map Mt.k++rs.map Mt.r
theorem P4 (f:Bool) (ks:List Kd) (rs:List Rl):fo ((Ks f ks rs).map Mt.it)=ks∧eT ((Ks f ks rs).map Mt.it)=rs:=by
 have k1:∀ks:List Kd,fo ((ks.map Mt.k).map Mt.it)=ks∧eT ((ks.map Mt.k).map Mt.it)=[]:=fun ks=>by
  induction ks with
  | nil=>exact⟨rfl,rfl⟩
  | cons a r ih =>
   refine⟨?_,ih.2⟩
   show a::fo _=a::r
   rw [ih.1]
 have r1:∀rs:List Rl,fo ((rs.map Mt.r).map Mt.it)=[]∧eT ((rs.map Mt.r).map Mt.it)=rs:=fun rs=>by
  induction rs with
  | nil=>exact⟨rfl,rfl⟩
  | cons a r ih =>
   refine⟨ih.1,?_⟩
   show ue a.title (jk a)::eT _=a::r
   rw [Ki,ih.2]
 unfold Ks
 cases f with
 | true=>rw [if_pos rfl,aat,jg,jh,(k1 ks).1,(k1 ks).2,(r1 rs).1,(r1 rs).2,aaZ];exact⟨rfl,rfl⟩
 | false=>rw [if_neg (by decide),aat,jg,jh,(k1 ks).1,(k1 ks).2,(r1 rs).1,(r1 rs).2,aaZ];exact⟨rfl,rfl⟩
theorem Kt {f:Bool} {ks:List Kd} {rs:List Rl} (hG:KG ks) (hT:∀r∈rs,kW r):∀m∈Ks f ks rs,m.Ok:=fun m hm=>by
 have hm:m∈ks.map Mt.k∨m∈rs.map Mt.r:=by
  unfold Ks at hm
  split at hm
  ·exact(aaq.mp hm).symm
  ·exact aaq.mp hm
 rcases hm with hm|hm
 ·obtain⟨k,hk,rfl⟩:=aay.mp hm
  exact hG.ok k hk
 ·obtain⟨r,hr,rfl⟩:=aay.mp hm
  exact hT r hr
def Dp (xs:List Mt) (ls:List Cs):Prop:=∃its:List (Cs × It),its.map (·.2)=xs.map Mt.it∧ls.filter told=its.map (·.1)∧(∀x∈its,x.1.all (uE eE)=true∧toks x.1=x.2.ps)∧∀l∈ls,10∉l
theorem Dp.nil:Dp [] []:=⟨[],rfl,rfl,(fun _ h=>nomatch h),fun _ h=>nomatch h⟩
theorem Dp.put {xs:List Mt} {ls:List Cs} (h:Dp xs ls) {m:Mt} {p:Cs} (hm:m.Ok) (ht:toks p=toks m.txt) (hok:p.all (uE eE)=true):Dp (xs++[m]) (ls++[p]):=by
 obtain⟨its,h1,h2,h3,h4⟩:=h
 obtain⟨_,z2,_,z4⟩:=Mt.line hm
 have hp:told p=true:=Mv hok (by rw [ht];exact z4)
 refine⟨its++[(p,m.it)],by rw [aat,aat,h1];rfl,?_,fun x hx=>?_,fun l hl=>?_⟩
 ·rw [abp,h2,aat]
  show _++[p].filter told=_
  rw [ab1,if_pos hp]
  rfl
 ·rcases aaq.mp hx with z|z
  ·exact h3 x z
  ·rw [aal.mp z]
   exact⟨hok,ht.trans z2⟩
 ·rcases aaq.mp hl with z|z
  ·exact h4 l z
  ·rw [aal.mp z]
   exact Kj PY hok
theorem Dp.WW {xs:List Mt} {ls:List Cs} (h:Dp xs ls) {p:Cs} (hp:told p=false) (MD:10∉p):Dp xs (ls++[p]):=by
 obtain⟨its,h1,h2,h3,h4⟩:=h
 refine⟨its,h1,?_,h3,fun l hl=>?_⟩
 ·rw [abp,h2]
  show _++[p].filter told=_
  rw [ab1,if_neg (by rw [hp];exact aaJ)]
  exact aaZ _
 ·rcases aaq.mp hl with z|z
  ·exact h4 l z
  ·rw [aal.mp z]
   exact MD
theorem Dp.plain:∀{xs:List Mt},(∀m∈xs,m.Ok)→Dp xs (xs.map Mt.txt):=fun {xs} h=>by
 have key:∀(ys zs:List Mt),Dp ys (ys.map Mt.txt)→(∀m∈zs,m.Ok)→Dp (ys++zs) ((ys++zs).map Mt.txt):=fun ys zs=>by
  induction zs generalizing ys with
  | nil=>intro a _;rw [aaZ];exact a
  | cons m r ih =>
   intro a b
   have hm:=b m (aav ..)
   have z:=ih (ys++[m]) (by rw [aat];exact a.put hm rfl (Mt.line hm).1) fun m hm=>b m (aam _ hm)
   rw [aaT] at z
   exact z
 exact key [] xs Dp.nil h
theorem Dp.WX {xs:List Mt} {ls:List Cs} (h:Dp xs ls):∀l∈ls,10∉l:=by
 obtain⟨_,_,_,_,h⟩:=h
 exact h
theorem ME (f:Bool) (ks:List Kd) (rs:List Rl):(Ks f ks rs).map Mt.txt=if f=true then rs.map aU++ks.map az else ks.map az++rs.map aU:=by
 unfold Ks
 split <;> rw [aat,abz,abz] <;> rfl
end Bk
namespace Bk
open PySem L2 cR
theorem tH (ks:List Kd) (r:Rl):∀l:List Rl,ba ks (l++[r])=if ba ks l=0 then judge ks r else ba ks l
 | []=>by
  show(if judge ks r=0 then 0 else judge ks r)=if (0:Nat)=0 then judge ks r else 0
  rw [if_pos rfl]
  split
  ·next h=>exact h.symm
  ·rfl
 | a::l=>by
  have ih:=tH ks r l
  show(if judge ks a=0 then ba ks (l++[r]) else judge ks a)=if (if judge ks a=0 then ba ks l else judge ks a)=0 then judge ks r else (if judge ks a=0 then ba ks l else judge ks a)
  by_cases h:judge ks a=0
  ·rw [if_pos h,if_pos h]
   exact ih
  ·rw [if_neg h,if_neg h,if_neg h]
theorem MF {ks:List Kd} {rs:List Rl} {ls:List Cs} (h:Dp (Ks false ks rs) ls) (hG:KG ks) (hT:∀r∈rs,kW r) (hn:(rs.map (·.title)).Nodup) (h6:rs.length≤6) :
  ∃its,Gv ls its∧fo (its.map (·.2))=ks∧eT (its.map (·.2))=rs:=by
 obtain⟨its,h1,h2,h3,_⟩:=h
 obtain⟨e1,e2⟩:=P4 false ks rs
 rw [← h1] at e1 e2
 refine⟨its,⟨h2,fun x hx=>⟨(h3 x hx).1,(h3 x hx).2,?_⟩,by rw [e1];exact hG.nd,by rw [e2];exact hn,?_⟩,e1,e2⟩
 ·have z:x.2∈(Ks false ks rs).map Mt.it:=by rw [← h1];exact aeB hx
  obtain⟨m,hm,e⟩:=aay.mp z
  rw [← e]
  exact(Mt.line (Kt hG hT m hm)).2.2.1
 ·have z:=congrArg aco h1
  have h4:=hG.len
  rw [Lm9,Lm9] at z
  unfold Ks at z
  rw [if_neg (by decide),aag,Lm9,Lm9] at z
  omega
theorem Gy {ks:List Kd} {rs:List Rl} (hG:KG ks) (hT:∀r∈rs,kW r) (hl:∀r∈rs,(aU r).length≤1600) (hn:(rs.map (·.title)).Nodup) (h6:rs.length≤6) :
  ∃its,ks.map az++rs.map aU≠[]∧(∀l∈ks.map az++rs.map aU,10∉l)∧(cH (ks.map az++rs.map aU)).length≤20000∧(∀l∈ks.map az++rs.map aU,l.length≤1600)∧(ks.map az++rs.map aU).length≤10∧Gv (ks.map az++rs.map aU) its∧fo (its.map (·.2))=ks∧eT (its.map (·.2))=rs:=by
 have hL:=Dp.plain (Kt (f:=false) hG hT)
 have e:(Ks false ks rs).map Mt.txt=ks.map az++rs.map aU:=by rw [ME,if_neg (by decide)]
 rw [e] at hL
 obtain⟨its,hB,e1,e2⟩:=MF hL hG hT hn h6
 have h4:=hG.len
 have hz:(ks.map az++rs.map aU).length≤10:=by rw [aag,Lm9,Lm9];omega
 have hm:∀l∈ks.map az++rs.map aU,l.length≤1600:=fun l h=>by
  rcases aaq.mp h with z|z
  ·obtain⟨k,hk,rfl⟩:=aay.mp z
   have:=qg (dW (hG.ok k hk).1).2
   omega
  ·obtain⟨r,hr,rfl⟩:=aay.mp z
   exact hl r hr
 have hj:=CN _ 1600 hm
 have Ku:(ks.map az++rs.map aU).length * (1600+1)≤10 * 1601:=abO _ hz
 refine⟨its,fun z=>?_,hL.WX,by omega,hm,hz,hB,e1,e2⟩
 have z:=congrArg aco z
 rw [aag,Lm9,h4] at z
 simp at z
theorem titled:∀{rs:List Rl} {zs:List Cs},rs.length≤zs.length→(∀r∈rs,Dl 3 4 r)→(∀z∈zs,a6 z=true)→(acE nS rs zs).length=rs.length∧(∀r∈acE nS rs zs,kW r∧(aU r).length≤1600)∧(acE nS rs zs).map (·.title)=zs.take rs.length
 | [],zs,_,_,_=>⟨by simp,(fun r hr=>by simp at hr),by simp⟩
 | r::rs,[],h,_,_=>by simp at h
 | r::rs,z::zs,h,h1,h2=>by
  obtain⟨i1,i2,i3⟩:=titled (rs:=rs) (zs:=zs) (by simpa using h) (fun r hr=>h1 r (aam _ hr)) (fun z hz=>h2 z (aam _ hz))
  have hW:=h1 r (aav ..)
  have hT:=hW.rlT (by decide) (by decide) (h2 z (aav ..))
  have hl:=hT.WV (M:=4) (show Iq 4 (nS r z) from hW.few)
  refine⟨by simp [i1],fun y hy=>?_,?_⟩
  ·rcases aaN.mp hy with e|e
   ·rw [e]
    exact⟨hT,by omega⟩
   ·exact i2 y e
  ·show z::(acE nS rs zs).map (·.title)=z::zs.take rs.length
   rw [i3]
theorem Kv (n:Nat):[V.bl (decide (V.int (n:Int)=V.int 1)),.bl (decide (V.int (n:Int)=V.int 2)),.bl (decide (V.int (n:Int)=V.int 3)),.bl (decide (V.int (n:Int)=V.int 4)),.bl (decide (V.int (n:Int)=V.int 5)),.bl true]=gr n:=by
 have e:∀m:Nat,decide (V.int (n:Int)=V.int (m:Int))=(n == m):=fun m=>by
  by_cases h:n=m
  ·subst h
   rw [decide_eq_true rfl]
   simp
  ·rw [decide_eq_false (fun z=>h (by have:=V.int.inj z;omega))]
   simp [h]
 have e1:=e 1
 have e2:=e 2
 have e3:=e 3
 have e4:=e 4
 have e5:=e 5
 unfold gr
 rw [← e1,← e2,← e3,← e4,← e5]
 rfl
end Bk
namespace ft
open PySem L2 cR Bk
set_option maxHeartbeats 4000000
def top (i:Nat):Stmt:=PySem.Challenge.pw_poolrules_k13_rules_refused.main.body.getD i (.Pass ⟨0,0,0,0⟩)
abbrev fZ:Stmt:=top 15
abbrev sh:Stmt:=top 16
abbrev oG:Stmt:=top 17
abbrev gL:Stmt:=top 18
abbrev lX:Stmt:=top 19
abbrev jJ:Stmt:=top 20
abbrev gM:Stmt:=top 21
abbrev vN:Stmt:=top 22
abbrev oH:Stmt:=top 23
abbrev oI:Stmt:=top 24
abbrev si:Stmt:=top 25
abbrev gO:Stmt:=top 26
abbrev iF:Stmt:=top 28
abbrev iG:Stmt:=top 29
abbrev lY:Stmt:=inClass (top 31) 0
abbrev lZ:Stmt:=inClass (top 32) 1
abbrev iH:Stmt:=inClass (top 33) 1
abbrev jK:Stmt:=top 40
abbrev sj:Stmt:=top 41
abbrev iI:Stmt:=top 42
abbrev ma:Stmt:=top 43
abbrev me:Stmt:=top 44
abbrev mf:Stmt:=top 45
abbrev jL:Stmt:=top 46
abbrev mh:Stmt:=top 47
abbrev jM:Stmt:=top 48
abbrev mi:Stmt:=top 49
abbrev fe:Stmt:=top 50
abbrev vO:Stmt:=top 51
abbrev mj:Stmt:=inClass (top 53) 0
abbrev jN:Stmt:=inClass (top 53) 1
abbrev ml:Stmt:=inClass (top 54) 0
abbrev jO:Stmt:=top 55
abbrev mm:Stmt:=top 56
abbrev mn:Stmt:=top 57
abbrev jP:Stmt:=top 58
abbrev jQ:Stmt:=top 59
abbrev iJ:Stmt:=top 60
abbrev jR:Stmt:=top 61
abbrev mq:Stmt:=top 62
abbrev mr:Stmt:=top 63
abbrev mv:Stmt:=top 64
abbrev mw:Stmt:=top 65
abbrev gP:Stmt:=top 67
abbrev oJ:Stmt:=top 68
abbrev jS:Stmt:=top 69
abbrev iK:Stmt:=top 70
abbrev jT:Stmt:=top 71
abbrev jU:Stmt:=top 72
abbrev jV:Stmt:=top 73
abbrev mx:Stmt:=top 74
abbrev fA:Stmt:=top 75
abbrev iM:Stmt:=top 76
abbrev jW:Stmt:=top 77
abbrev jX:Stmt:=top 78
abbrev oK:Stmt:=top 79
abbrev my:Stmt:=top 80
abbrev fB:Stmt:=top 81
abbrev fC:Stmt:=top 82
abbrev jY:Stmt:=top 83
abbrev oM:Stmt:=top 84
abbrev jZ:Stmt:=top 86
abbrev eo:Stmt:=top 87
abbrev ff:Stmt:=top 88
abbrev gQ:Stmt:=top 89
abbrev iN:Stmt:=top 90
abbrev j0:Stmt:=top 91
abbrev j4:Stmt:=top 92
abbrev qm:Stmt:=top 93
section
variable {P:aaS} {w:abg} {K:aae} {mg:Str→Option aai} {base:Heap} {f:aaB} {fd:aa9} {c:Cl}
theorem uh:aC ["sign"] ["sign"] (au gL):=⟨rfl,rfl,rfl,by decide +kernel,rfl,by decide +kernel,by decide +kernel⟩
theorem ui {u1 u2 u3:aai} (F:dn K "is_name_sign" "is_name_sign" gL f fd) (Ak:mg "SMALL"=some u1) (Al:RelV (.str ef) u1) (Am:mg "GREAT"=some u2) (An:RelV (.str eX) u2) (Hm:mg "FIGURES"=some u3) (Hn:RelV (.str Hc) u3) :
  a4 P w K mg base dJ 1 f fd ["sign"] EH:=by
 refine F.ok uh (fun vs H Q E h=>?_) (fun cJ A outer s H vs Q E hr h=>?_)
 ·obtain⟨c,rfl,_⟩:=h
  rfl
 obtain⟨c,rfl,q⟩:=h
 refine⟨_,(ak (aG (NA (cZ gD (pv 0) (cU rfl Ak Al) (by with_unfolding_all rfl)) (NA (cZ gD (pv 0) (cU rfl Am An) (by with_unfolding_all rfl)) (uT (cZ gD (pv 0) (cU rfl Hm Hn) (by with_unfolding_all rfl))))))),?_⟩
 refine⟨_,rfl,_,_,rfl,rfl,_,rfl,?_⟩
 rw [ab9]
 refine eV (fun z=>?_) (fun z=>?_)
 ·have e:bp c=true:=by unfold bp;rw [z];rfl
  rw [e] at q
  exact q
 refine⟨_,rfl,_,_,rfl,rfl,_,rfl,?_⟩
 rw [ab9]
 have z':decide (c∈ef.cps.toList)=false:=by simpa using z
 refine eV (fun y=>?_) (fun y=>?_)
 ·have e:bp c=true:=by unfold bp;rw [y];simp
  rw [e] at q
  exact q
 have y':decide (c∈eX.cps.toList)=false:=by simpa using y
 refine⟨_,rfl,_,_,rfl,rfl,?_⟩
 rw [ab9]
 have e:bp c=decide (c∈Hc.cps.toList):=by unfold bp;rw [z',y'];rfl
 rw [e] at q
 exact q
theorem EX:aC ["text"] ["text"] (au sh):=⟨rfl,rfl,rfl,by decide +kernel,rfl,by decide +kernel,by decide +kernel⟩
theorem EY {u1:aai} (F:dn K "is_name" "is_name" sh f fd) (dt:dz P w K mg base "is_name_sign" 1 ["sign"] EH)
  (aY:mg "len"=none) (SD:mg "all"=none) (Ho:mg "LONGEST"=some u1) (Hq:RelV (.int 12) u1):a4 P w K mg base dJ 2 f fd ["text"] (Cz gm):=by
 refine F.ok EX (fun vs H Q E h=>?_) (fun cJ A outer s H vs Q E hr h=>?_)
 ·obtain⟨c,rfl,_⟩:=h
  rfl
 obtain⟨x,rfl,hx,q⟩:=h
 refine⟨_,(ak (aG (zL (IM ND ND af (aK eU rfl aY aaF (aa (pv 0) ag)) (cU rfl Ho Hq)) (uT (aK Jh rfl SD PyProof.Rows.boot_all (aa (bG [] rfl (by kernel_rfl) (O5 (pv 0)) (fun _ _ _ _ _=>bE) (fun _ _ _ _ _=>(ao dt (hr.mono (by decide)) rfl (aa (pv 0) ag)))) ag)))))),?_⟩
 refine⟨_,rfl,x,rfl,sz (by omega),_,_,rfl,rfl,_,rfl,?_⟩
 refine eV (fun c1=>?_) (fun c1=>?_)
 ·refine⟨_,_,rfl,rfl,_,rfl,?_⟩
  refine eV (fun c2=>?_) (fun c2=>?_)
  ·refine⟨_,rfl,x,rfl,fun D hD=>?_⟩
   refine Jg (x:=x) (iC (show x.cps.size≤100000 by have z:x.cps.size≤20000:=hx;omega)) (fun i ys H'=>ai H H'∧H' D=some (.lst ys)∧ys=((x.cps.toList.take i).map bp).map V.bl) ⟨aj hD _,ae,rfl⟩ (fun i ys H' p=>⟨p.2.1,?_⟩) (fun i ys H' hi p=>?_) (fun ys H' p=>?_)
   ·rw [p.2.2]
    simp
    omega
   ·refine⟨_,rfl,_,rfl,p.2.1,?_⟩
    refine⟨fun b o e=>?_,ae,?_⟩
    ·rw [aH (aP e hD)]
     exact p.1 b o e
    ·rw [p.2.2]
     have hi':i<x.cps.toList.length:=by simpa using hi
     rw [aak hi']
     simp [adf,hi]
   ·refine⟨D,(x.cps.toList.map bp),rfl,rfl,.inl (.inl ?_),?_⟩
    ·rw [p.2.1,p.2.2,abm (by simp)]
    ·have e:gm x=(x.cps.toList.map bp).all id:=by
      unfold gm
      rw [c1,c2]
      simp [aeT,aeP]
     have q':=q H' p.1
     rw [e] at q'
     exact q'
  ·have e:gm x=false:=by
    unfold gm
    have SE:decide ((x.length:Int)≤12)=false:=by simpa using c2
    rw [SE]
    simp
   have q':=q H (ai.refl H)
   rw [e] at q'
   exact q'
 ·have e:gm x=false:=by
   unfold gm
   have c1':decide ((1:Int)≤x.length)=false:=by simpa using c1
   rw [c1']
   simp
  have q':=q H (ai.refl H)
  rw [e] at q'
  exact⟨_,rfl,bo q'⟩
theorem sk:aC ["text"] ["text"] (au fZ):=⟨rfl,rfl,rfl,by decide +kernel,rfl,by decide +kernel,by decide +kernel⟩
theorem so {u1:aai} (F:dn K "is_small_word" "is_small_word" fZ f fd) (dO:dz P w K mg base "is_name" 2 ["text"] (Cz gm))
  (Ak:mg "SMALL"=some u1) (Al:RelV (.str ef) u1):a4 P w K mg base dJ 3 f fd ["text"] (Cz jD):=by
 refine F.ok sk (fun vs H Q E h=>?_) (fun cJ A outer s H vs Q E hr h=>?_)
 ·obtain⟨c,rfl,_⟩:=h
  rfl
 obtain⟨x,rfl,hx,q⟩:=h
 refine⟨_,(ak (aG (zL (ao dO (hr.mono (by decide)) rfl (aa (pv 0) ag)) (uT (cZ gD (aq fW (pv 0) af (fun _ _=>rfl)) (cU rfl Ak Al) (by with_unfolding_all rfl)))))),?_⟩
 refine⟨_,rfl,x,rfl,hx,fun H' sm=>⟨_,rfl,?_⟩⟩
 have q':=q H' sm
 unfold jD at q'
 refine eV (fun c=>?_) (fun c=>?_)
 ·refine⟨_,rfl,x,0,_,rfl,rfl,sz (by omega),uD (Jz c),_,_,rfl,rfl,?_⟩
  rw [ab9]
  rw [c,Bool.true_and] at q'
  exact q'
 ·have e:gm x=false:=by simpa using c
  rw [e,Bool.false_and] at q'
  exact q'
theorem mz:aC ["text","start","end"] ["text","start"] (au oH):=⟨rfl,rfl,rfl,by decide +kernel,rfl,by decide +kernel,by decide +kernel⟩
theorem Dq (F:dn K "name_end" "name_end" oH f fd) (dt:dz P w K mg base "is_name_sign" 1 ["sign"] EH) (aY:mg "len"=none):a4 P w K mg base dJ 2 f fd ["text","start"] NQ:=by
 refine F.ok mz (fun vs H Q E h=>?_) (fun cJ A outer s H vs Q E hr h=>?_)
 ·obtain⟨x,p,rfl,_⟩:=h
  rfl
 obtain⟨x,p,rfl,hx,hp,q⟩:=h
 have hl:=lJ x
 refine⟨_,(ah (ay (i:=2) mz.nd rfl (aaM rfl) (pv 1))
 (ah (pH aa0 (PW.pt (lB (aE uV (pv 2) (aK eU rfl aY aaF (aa (pv 0) ag)) (aM _)) (hV (cW (ao dt (hr.mono (by decide)) rfl (aa (aq fW (pv 0) (pv 2) (fun _ _=>rfl)) ag))))))
 (ak (zM (i:=2) mz.nd rfl (aaM rfl) af zN)))
 (ak (aG (pv 2))))),?_⟩
 refine⟨_,rfl,fun m σ H'=>H'=H∧∃j:Nat,m=x.length - (p+j)∧σ=[some (.str x),some (.int p),some (.int ((p+j:Nat):Int))]∧p+j≤x.length∧bQ (x.cps.toList.drop p)=j+bQ (x.cps.toList.drop (p+j)),⟨_,rfl,0,rfl,rfl,hp,by simp⟩,?_⟩
 rintro m σ H' ⟨rfl,j,rfl,rfl,hj,e⟩
 refine⟨_,rfl,_,rfl,x,rfl,sz (by omega),_,_,rfl,rfl,_,rfl,?_⟩
 refine eV (fun c=>?_) (fun c=>?_)
 ·have c':p+j<x.length:=by
   have z:=of_decide_eq_true c
   omega
  have hd:x.cps.toList.drop (p+j)=x.cps.toList.getD (p+j) 0::x.cps.toList.drop (p+j+1):=Cw (by omega)
  rw [hd,z6] at e
  refine⟨_,rfl,_,rfl,x,_,_,rfl,rfl,sz (by omega),vr (by omega) (by omega),_,rfl,_,rfl,?_⟩
  rw [show((p+j:Nat):Int).toNat=p+j by omega]
  refine eV (fun c2=>?_) (fun c2=>?_)
  ·rw [if_pos c2] at e
   refine⟨fun σ' H2=>H2=H'∧σ'=[some (.str x),some (.int p),some (.int ((p+(j+1):Nat):Int))],fun σ' H2 z=>⟨x.length - (p+(j+1)),by omega,z.1,j+1,rfl,z.2,by omega,by rw [← Nat.add_assoc];omega⟩,?_⟩
   refine⟨_,rfl,_,_,rfl,rfl,rfl,?_⟩
   show [some (V.str x),some (V.int p),some (V.int (((p+j:Nat):Int)+1))]=_
   rw [show((p+(j+1):Nat):Int)=((p+j:Nat):Int)+1 by omega]
  ·rw [if_neg c2] at e
   refine⟨_,rfl,?_⟩
   rw [e] at q
   exact q
 ·have c':¬ (p+j<x.length):=fun z=>c (decide_eq_true (by omega))
  have hd:x.cps.toList.drop (p+j)=[]:=ad4 (by omega)
  rw [hd] at e
  refine bo ⟨_,rfl,?_⟩
  rw [e] at q
  exact q
theorem fD:aC ["text","marks","found","place","end","sign"] ["text","marks"] (au vN):=⟨rfl,rfl,rfl,by decide +kernel,rfl,by decide +kernel,by decide +kernel⟩
theorem Hr (F:dn K "pieces" "pieces" vN f fd) (oN:dz P w K mg base "name_end" 2 ["text","start"] NQ) (aY:mg "len"=none):a4 P w K mg base dJ 3 f fd ["text","marks"] CA:=by
 refine F.ok fD (fun vs H Q E h=>?_) (fun cJ A outer s H vs Q E hr h=>?_)
 ·obtain⟨x,m,rfl,_⟩:=h
  rfl
 obtain⟨x,mk,rfl,hx,WY,hok,q⟩:=h
 have hl:=lJ x
 refine⟨_,(ah (ay (i:=2) fD.nd rfl (aaM rfl) (aV ag))
 (ah (ay (i:=3) fD.nd rfl (aaM rfl) af)
 (ah (pH aa0 (aE uV (pv 3) (aK eU rfl aY aaF (aa (pv 0) ag)) (aM _))
 (ah (ay (i:=4) fD.nd rfl (aaM rfl) (ao oN (hr.mono (by decide)) rfl (aa (pv 0) (aa (pv 3) ag))))
 (ah (aX (aE lD (pv 4) (pv 3) (aM _))
 (ah (bh (bx aaD aaI aaL bg (pv 2) (aa (cy uZ (pv 0) (cv (pv 3)) (cv (pv 4))) ag)))
 (ah (ay (i:=3) fD.nd rfl (aaM rfl) (pv 4))
 (ak Cg)))
 aI)
 (ah (ay (i:=5) fD.nd rfl (aaM rfl) (aq fW (pv 0) (pv 3) (fun _ _=>rfl)))
 (ah (aX (aE gD (pv 5) (pv 1) (by with_unfolding_all rfl))
 (ak (bh (bx aaD aaI aaL bg (pv 2) (aa (pv 5) ag))))
 (ak (aX (aE ib (pv 5) aF (aM _))
 cj
 aI)))
 (ak (zM (i:=3) fD.nd rfl (aaM rfl) af zN)))))))
 (ak (aG (pv 2)))))),?_⟩
 refine⟨(by show 0≤aaj;decide),fun l Hs=>?_⟩
 refine⟨F7 x mk l H,⟨_,0,[],none,none,rfl,rfl,abt _,aj Hs _,ae,rfl⟩,?_⟩
 rintro m σ H' ⟨p,done,o3,o4,rfl,rfl,hp,sm,hL,e⟩
 have hlen:done.length≤20000:=by
  have z:=congrArg aco e
  rw [aag] at z
  have z2:=CC x.cps.toList
  omega
 refine⟨_,rfl,_,rfl,x,rfl,sz (by omega),_,_,rfl,rfl,_,rfl,?_⟩
 refine eV (fun c=>?_) (fun c=>?_)
 ·have c':p<x.length:=by
   have z:=of_decide_eq_true c
   omega
  refine⟨fun σ' H2=>∃m',m'<x.length - p∧F7 x mk l H m' σ' H2,fun σ' H2 z=>z,?_⟩
  refine⟨_,rfl,_,rfl,x,p,rfl,hx,hp,?_⟩
  refine⟨_,rfl,_,rfl,_,_,rfl,rfl,_,rfl,?_⟩
  have hd:=Cw (l:=x.cps.toList) (i:=p) (by omega)
  have hnl:=EI (x.cps.toList.drop p)
  rw [aba] at hnl
  refine eV (fun c2=>?_) (fun c2=>?_)
  ·have SE:0<bQ (x.cps.toList.drop p):=by
    have z:=of_decide_eq_true c2
    omega
   refine⟨_,rfl,.inl ⟨rfl,_,aL.of hL⟩,_,rfl,_,rfl,_,rfl,_,rfl,_,rfl,x,rfl,sz (by omega),?_⟩
   rw [F6 (by omega)]
   refine⟨l,_,_,rfl,rfl,hL,(by rw [Lm9];exact iC (by omega)),?_⟩
   refine⟨_,rfl,x.length - (p+bQ (x.cps.toList.drop p)),by omega,p+bQ (x.cps.toList.drop p),done++[(x.cps.toList.drop p).take (bQ (x.cps.toList.drop p))],_,_,rfl,rfl,by omega,ai.aR sm Hs _,?_,?_⟩
   ·rw [ae,aat]
    rfl
   ·rw [vo (by omega),acZ] at e
    rw [aaT]
    exact e
  ·have SE:bQ (x.cps.toList.drop p)=0:=by
    have z:¬ ((p:Int)<((p+bQ (x.cps.toList.drop p):Nat):Int)):=fun z=>c2 (decide_eq_true z)
    omega
   have Hf:bp (x.cps.toList.getD p 0)=false:=by
    rw [hd] at SE
    exact zY SE
   have U6:uE mk (x.cps.toList.getD p 0)=true:=by
    rw [aa4] at hok
    exact hok _ (abB (getD_get (by omega)))
   refine⟨_,rfl,_,rfl,x,p,_,rfl,rfl,sz (by omega),vr (by omega) (by omega),?_⟩
   rw [show((p:Nat):Int).toNat=p by omega]
   refine⟨_,rfl,_,rfl,_,_,rfl,rfl,_,rfl,?_⟩
   rw [ab9]
   rw [hd] at e
   refine eV (fun c3=>?_) (fun c3=>?_)
   ·have hb:x.cps.toList.getD p 0≠32:=fun z=>WY (by have:=of_decide_eq_true c3;rw [z] at this;exact this)
    rw [vv Hf hb] at e
    refine⟨_,rfl,.inl ⟨rfl,_,aL.of hL⟩,_,rfl,l,_,_,rfl,rfl,hL,(by rw [Lm9];exact iC (by omega)),?_⟩
    refine⟨_,rfl,_,_,rfl,rfl,x.length - (p+1),by omega,p+1,done++[[x.cps.toList.getD p 0]],_,_,rfl,rfl,by omega,ai.aR sm Hs _,?_,?_⟩
    ·rw [ae,aat]
     rfl
    ·rw [aaT]
     exact e
   ·have hb:x.cps.toList.getD p 0=32:=by
     unfold uE at U6
     rw [Hf,aeG] at U6
     have c3':decide (x.cps.toList.getD p 0∈mk.cps.toList)=false:=by simpa using c3
     rw [c3',aeG] at U6
     exact eq_of_beq U6
    rw [hb] at e ⊢
    rw [eL] at e
    refine⟨_,rfl,rfl,_,rfl,?_⟩
    have z:decide (V.str ⟨#[32]⟩=V.str (aaf " "))=true:=by decide +kernel
    rw [z]
    refine bo ?_
    exact⟨_,rfl,_,_,rfl,rfl,x.length - (p+1),by omega,p+1,done,_,_,rfl,rfl,by omega,sm,hL,e⟩
 ·have c':p=x.length:=by
   have z:¬ ((p:Int)<(x.length:Int)):=fun z=>c (decide_eq_true z)
   omega
  have hd:x.cps.toList.drop p=[]:=ad4 (by omega)
  rw [hd] at e
  have e':done=toks x.cps.toList:=by
   rw [← e]
   show done=done++[]
   rw [aaZ]
  rw [e'] at hL
  exact⟨_,rfl,q l H' sm Hs hL⟩
theorem Dr:aC ["found","place"] ["found","place"] (au oI):=⟨rfl,rfl,rfl,by decide +kernel,rfl,by decide +kernel,by decide +kernel⟩
theorem Ds (F:dn K "piece_at" "piece_at" oI f fd) (aY:mg "len"=none):a4 P w K mg base dJ 1 f fd ["found","place"] uF:=by
 refine F.ok Dr (fun vs H Q E h=>?_) (fun cJ A outer s H vs Q E hr h=>?_)
 ·obtain⟨l,ps,p,rfl,_⟩:=h
  rfl
 obtain⟨l,ps,p,rfl,hL,hz,q⟩:=h
 refine⟨_,(ah (aX (aE uV (pv 1) (aK aB rfl aY aaF (aa (pv 0) ag)) (aM _))
 (ak (aG (aq aJ (pv 0) (pv 1) (fun _ _=>rfl))))
 aI)
 (ak (aG aF))),?_⟩
 refine⟨_,rfl,_,rfl,l,_,rfl,.inl (aL.of hL),_,_,rfl,rfl,_,rfl,?_⟩
 refine eV (fun c=>?_) (fun c=>?_)
 ·have c':p<ps.length:=by
   have z:=of_decide_eq_true c
   rw [Lm9] at z
   omega
  refine⟨_,rfl,_,rfl,l,_,_,tx (ps.getD p []),rfl,rfl,aL.of hL,?_,q⟩
  refine bz ?_
  rw [aa6,Gd9,Ge9 c']
  rfl
 ·have c':ps.length≤p:=by
   have z:¬ ((p:Int)<(((ps.map tx).length:Nat):Int)):=fun z=>c (decide_eq_true z)
   rw [Lm9] at z
   omega
  have e:ps.getD p []=[]:=by
   rw [Gd9,List.getElem?_eq_none c']
   rfl
  rw [e] at q
  exact q
theorem dM:aC ["found","place","names","name","mark"] ["found","place"] (au gO):=⟨rfl,rfl,rfl,by decide +kernel,rfl,by decide +kernel,by decide +kernel⟩
theorem uj (F:dn K "arguments_at" "arguments_at" gO f fd) (bO:dz P w K mg base "piece_at" 1 ["found","place"] uF) (dO:dz P w K mg base "is_name" 2 ["text"] (Cz gm)) (j5:mg "tuple"=none) :
  a4 P w K mg base dJ 3 f fd ["found","place"] JA:=by
 refine F.ok dM (fun vs H Q E h=>?_) (fun cJ A outer s H vs Q E hr h=>?_)
 ·obtain⟨l,ps,p,n,as,rfl,_⟩:=h
  rfl
 obtain⟨l,ps,p,n,as,rfl,hL,hz,alt,q⟩:=h
 refine⟨_,(ah (ay (i:=2) dM.nd rfl (aaM rfl) (aV ag))
 (ah (aX (aE cg (ao bO (hr.mono (by decide)) rfl (aa (pv 0) (aa (pv 1) ag))) aF (aM _))
 (ak (aG (bD (aa (bD ag) (aa (aw cE (pv 1) af) ag)))))
 aI)
 (ak (pH aa0 (cW d7)
 (ah (ay (i:=3) dM.nd rfl (aaM rfl) (ao bO (hr.mono (by decide)) rfl (aa (pv 0) (aa (pv 1) ag))))
 (ah (aX (jv (cW (ao dO (hr.mono (by decide)) rfl (aa (pv 3) ag))))
 cj
 aI)
 (ah (bh (bx aaD aaI aaL bg (pv 2) (aa (pv 3) ag)))
 (ah (ay (i:=4) dM.nd rfl (aaM rfl) (ao bO (hr.mono (by decide)) rfl (aa (pv 0) (aa (aw cE (pv 1) af) ag))))
 (ah (zM (i:=1) dM.nd rfl (aaM rfl) af zN)
 (ah (aX (aE cg (pv 4) aF (aM _))
 (ak (aG (bD (aa (cX fJ rfl j5 PyProof.Rows.Boot.«tuple» (aa (pv 2) ag)) (aa (pv 1) ag)))))
 aI)
 (ak (aX (aE ib (pv 4) aF (aM _))
 cj
 aI)))))))))))),?_⟩
 refine⟨(by show 0≤aaj;decide),fun ln U7=>?_⟩
 have hLn:l≠ln:=fun z=>by rw [z,U7] at hL;cases hL
 have rT:upd H ln (.lst []) l=some (.lst (ps.map tx)):=by rw [aH hLn];exact hL
 refine⟨_,rfl,_,rfl,l,ps,p,rfl,rT,hz,rfl,_,rfl,?_⟩
 rcases alt with⟨rfl,rfl,e41⟩|⟨WZ,ha⟩
 ·rw [e41]
  have z:decide (tx [41]=V.str (aaf ")"))=true:=by decide +kernel
  rw [z]
  refine cL ⟨(by show 0≤aaj;decide),fun t2 qo=>?_⟩
  refine⟨_,rfl,_,_,rfl,rfl,(by show 2≤aaj;decide),fun t ht=>?_⟩
  have MG:t2≠t:=fun z=>by rw [← z,ae] at ht;cases ht
  refine q t t2 _ (ai.trans (aj U7 _) (ai.trans (aj qo _) (aj ht _))) ae ?_
  rw [aH MG]
  exact ae
 ·have z:decide (tx (ps.getD p [])=V.str (aaf ")"))=false:=JB (b:=[41]) WZ
  rw [z]
  refine bo ?_
  refine⟨NS l ln ps as (p+n) H,⟨_,p,n,[],as,none,none,rfl,rfl,aj U7 _,rT,ae,ha,rfl,rfl,by rw [aba];simp;omega⟩,?_⟩
  rintro m σ H' ⟨p',n',done,as',o3,o4,rfl,rfl,sm,hL',hN',ha',ed,ep,hdl⟩
  obtain⟨nm,mk,r,er,nD,W0⟩:=Hd ha'
  have g0:ps.getD p' []=nm:=by
   have z:=gE (l:=ps) (p:=p') (i:=0)
   rw [er] at z
   exact z.symm
  have g1:ps.getD (p'+1) []=mk:=by
   have z:=gE (l:=ps) (p:=p') (i:=1)
   rw [er] at z
   exact z.symm
  have MH:ps.drop (p'+2)=r:=by
   rw [← acZ,er]
   rfl
  have rJ:(ps.drop p').length=r.length+2:=by rw [er];rfl
  refine⟨_,rfl,?_⟩
  refine cL ⟨fun σ' H2=>∃m',m'<(ps.drop p').length∧NS l ln ps as (p+n) H m' σ' H2,fun σ' H2 z=>z,?_⟩
  refine⟨_,rfl,_,rfl,l,ps,p',rfl,hL',hz,?_⟩
  rw [g0]
  have hnl:nm.length≤12:=by
   unfold aD at nD
   simp only [aaW,decide_eq_true_eq] at nD
   exact nD.2.1
  refine⟨_,rfl,S nm,rfl,by rw [aS];omega,fun H2 nM=>⟨_,rfl,?_⟩⟩
  rw [p6,nD]
  refine bo ?_
  have N5:=nM _ _ hN'
  have vP:=nM _ _ hL'
  refine⟨_,rfl,.inl ⟨rfl,_,aL.of N5⟩,_,rfl,ln,_,_,rfl,rfl,N5,(by rw [Lm9];exact iC (by omega)),?_⟩
  have Ir:upd H2 ln (.lst (done.map tx++[tx nm])) l=some (.lst (ps.map tx)):=by rw [aH hLn];exact vP
  refine⟨_,rfl,_,rfl,_,_,rfl,rfl,l,ps,p'+1,rfl,Ir,hz,?_⟩
  rw [g1]
  refine⟨_,rfl,_,_,rfl,rfl,?_⟩
  have Pc:ai H (upd H2 ln (.lst (done.map tx++[tx nm]))):=ai.aR (ai.trans sm nM) U7 _
  refine⟨_,rfl,rfl,_,rfl,?_⟩
  rcases W0 with⟨rfl,rfl,rfl⟩|⟨rfl,as2,n2,QV,rfl,rfl⟩
  ·have z:decide (tx [41]=V.str (aaf ")"))=true:=by decide +kernel
   rw [z]
   refine cL ⟨_,rfl,ln,_,rfl,.inl ⟨aL.of ae,fun t2 qo=>?_⟩⟩
   refine⟨_,rfl,(by show 2≤aaj;decide),fun t ht=>?_⟩
   have MG:t2≠t:=fun z=>by rw [← z,ae] at ht;cases ht
   refine q t t2 _ (ai.trans Pc (ai.trans (aj qo _) (aj ht _))) ?_ ?_
   ·rw [ae,← ep]
    rfl
   ·rw [aH MG,ae,← ed,aat]
    rfl
  ·have z:decide (tx [44]=V.str (aaf ")"))=false:=by decide +kernel
   rw [z]
   refine bo ?_
   have z2:decide (tx [44]=V.str (aaf ","))=true:=by decide +kernel
   refine⟨_,rfl,rfl,_,rfl,?_⟩
   rw [z2]
   refine bo ?_
   refine⟨(ps.drop (p'+2)).length,by rw [MH,rJ];omega,p'+2,n2,done++[nm],as2,_,_,rfl,rfl,Pc,Ir,?_,by rw [MH];exact QV,by rw [aaT];exact ed,by omega,by rw [MH,aag];simp only [aar,abb];omega⟩
   rw [ae,aat]
   rfl
theorem oO:aC ["found","place","kind","reading"] ["found","place"] (au si):=⟨rfl,rfl,rfl,by decide +kernel,rfl,by decide +kernel,by decide +kernel⟩
theorem EZ (F:dn K "fact_at" "fact_at" si f fd) (bO:dz P w K mg base "piece_at" 1 ["found","place"] uF) (bK:dz P w K mg base "is_small_word" 3 ["text"] (Cz jD)) (gR:dz P w K mg base "arguments_at" 3 ["found","place"] JA) :
  a4 P w K mg base dJ 4 f fd ["found","place"] CB:=by
 refine F.ok oO (fun vs H Q E h=>?_) (fun cJ A outer s H vs Q E hr h=>?_)
 ·obtain⟨l,ps,p,n,k,as,rfl,_⟩:=h
  rfl
 obtain⟨l,ps,p,n,k,as,rfl,hL,hz,hF,q⟩:=h
 refine⟨_,(ah (ay (i:=2) oO.nd rfl (aaM rfl) (ao bO (hr.mono (by decide)) rfl (aa (pv 0) (aa (pv 1) ag))))
 (ah (aX (jv (cW (ao bK (hr.mono (by decide)) rfl (aa (pv 2) ag))))
 cj
 aI)
 (ah (aX (aE ib (ao bO (hr.mono (by decide)) rfl (aa (pv 0) (aa (aw cE (pv 1) af) ag))) aF (aM _))
 (ak (aG (bD (aa (bD (aa (pv 2) (aa (bD ag) ag))) (aa (aw cE (pv 1) af) ag)))))
 aI)
 (ah (ay (i:=3) oO.nd rfl (aaM rfl) (ao gR (hr.mono (by decide)) rfl (aa (pv 0) (aa (aw cE (pv 1) af) ag))))
 (ak (aG (bD (aa (bD (aa (pv 2) (aa (aq ar (pv 3) af (fun _ _=>rfl)) ag))) (aa (aq ar (pv 3) af (fun _ _=>rfl)) ag))))))))),?_⟩
 have hd:∃r,ps.drop p=k::r∧a6 k=true:=by
  generalize ps.drop p=l0 at hF
  cases hF with
  | bare hk h=>exact⟨_,rfl,hk⟩
  | empty hk=>exact⟨_,rfl,hk⟩
  | args hk h0 h=>exact⟨_,rfl,hk⟩
 obtain⟨r0,ed,hk⟩:=hd
 have g0:ps.getD p []=k:=by
  have z:=gE (l:=ps) (p:=p) (i:=0)
  rw [ed] at z
  exact z.symm
 have N6:k.length≤12:=by
  unfold a6 aD at hk
  simp only [aaW,decide_eq_true_eq] at hk
  exact hk.1.2.1
 have hkb:jD (S k)=true:=by
  unfold jD
  rw [p6,bH]
  exact hk
 refine⟨_,rfl,_,rfl,l,ps,p,rfl,hL,hz,?_⟩
 rw [g0]
 refine⟨_,rfl,S k,rfl,by rw [aS];omega,fun H1 s1=>⟨_,rfl,?_⟩⟩
 rw [hkb]
 refine bo ?_
 have rT:=s1 _ _ hL
 refine⟨_,rfl,_,rfl,_,_,rfl,rfl,l,ps,p+1,rfl,rT,hz,rfl,_,rfl,?_⟩
 have g1:ps.getD (p+1) []=r0.getD 0 []:=by
  have z:=gE (l:=ps) (p:=p) (i:=1)
  rw [ed] at z
  exact z.symm
 rw [g1]
 have full:∀(as':List (List Nat)) (n':Nat),r0.getD 0 []=[40]→n=n'+2→as=as'→((as'=[]∧n'=1∧ps.getD (p+2) []=[41])∨(ps.getD (p+2) []≠[41]∧gj (ps.drop (p+2))=some (as',n')))→True:=fun _ _ _ _ _ _=>trivial
 by_cases SF:r0.getD 0 []=[40]
 ·rw [SF]
  have z:decide (tx [40]=V.str (aaf "("))=true:=by decide +kernel
  rw [z]
  refine bo ?_
  have key:∃n',n=n'+2∧((as=[]∧n'=1∧ps.getD (p+2) []=[41])∨(ps.getD (p+2) []≠[41]∧gj (ps.drop (p+2))=some (as,n'))):=by
   have g2:∀r1,ps.drop p=k::[40]::r1→ps.getD (p+2) []=r1.getD 0 []∧ps.drop (p+2)=r1:=fun r1 e=>by
    refine⟨?_,?_⟩
    ·have z:=gE (l:=ps) (p:=p) (i:=2)
     rw [e] at z
     exact z.symm
    ·rw [← acZ,e]
     rfl
   rw [ed] at hF g2
   cases hF with
   | bare hk' h=>exact absurd SF h
   | @empty _ r hk' =>
    obtain⟨a1,a2⟩:=g2 _ rfl
    exact⟨1,rfl,.inl ⟨rfl,rfl,a1⟩⟩
   | @args _ r _ n' hk' h0 h =>
    obtain⟨a1,a2⟩:=g2 _ rfl
    exact⟨n',rfl,.inr ⟨by rw [a1];exact h0,by rw [a2];exact h⟩⟩
  obtain⟨n',en,alt⟩:=key
  refine⟨_,rfl,_,rfl,_,_,rfl,rfl,l,ps,p+2,n',as,rfl,rT,hz,alt,fun t t2 H2 s2 ht qo=>?_⟩
  refine⟨_,rfl,_,rfl,t,_,0,.ref t2,rfl,rfl,bT.of ht,rfl,(by show 2≤aaj;decide),fun t1 Ao=>?_⟩
  have P5:=aj Ao (.tup [tx k,.ref t2])
  refine⟨_,rfl,t,_,1,_,rfl,rfl,bT.of (P5 _ _ ht),rfl,(by show 2≤aaj;decide),fun t0 MI=>?_⟩
  have MD:t1≠t0:=fun z=>by rw [← z,ae] at MI;cases MI
  refine q t0 t1 t2 _ (ai.trans s1 (ai.trans s2 (ai.trans P5 (aj MI _)))) ?_ ?_ ((aj MI _) _ _ (P5 _ _ qo))
  ·rw [ae,en,show p+2+n'=p+(n'+2) by omega]
  ·rw [aH MD]
   exact ae
 ·have z:decide (tx (r0.getD 0 [])=V.str (aaf "("))=false:=JB (b:=[40]) SF
  rw [z]
  have key:as=[]∧n=1:=by
   rw [ed] at hF
   cases hF with
   | bare hk' h=>exact⟨rfl,rfl⟩
   | empty hk'=>exact absurd rfl SF
   | args hk' h0 h=>exact absurd rfl SF
  obtain⟨rfl,rfl⟩:=key
  refine cL ⟨_,rfl,(by show 0≤aaj;decide),fun t2 qo=>?_⟩
  refine⟨(by show 2≤aaj;decide),fun t1 Ao=>?_⟩
  refine⟨_,rfl,_,_,rfl,rfl,(by show 2≤aaj;decide),fun t0 MI=>?_⟩
  have MD:t1≠t0:=fun z=>by rw [← z,ae] at MI;cases MI
  refine q t0 t1 t2 _ (ai.trans s1 (ai.trans (aj qo _) (ai.trans (aj Ao _) (aj MI _)))) ae ?_ ((aj MI _) _ _ ((aj Ao _) _ _ ae))
  rw [aH MD]
  exact ae
theorem cY:aC ["found","facts","place","reading"] ["found"] (au gM):=⟨rfl,rfl,rfl,by decide +kernel,rfl,by decide +kernel,by decide +kernel⟩
theorem um (F:dn K "row_of_facts" "row_of_facts" gM f fd) (sq:dz P w K mg base "fact_at" 4 ["found","place"] CB) (aY:mg "len"=none):a4 P w K mg base dJ 5 f fd ["found"] (NT K):=by
 refine F.ok cY (fun vs H Q E h=>?_) (fun cJ A outer s H vs Q E hr h=>?_)
 ·obtain⟨l,ps,fs,rfl,_⟩:=h
  rfl
 obtain⟨l,ps,fs,rfl,hL,hz,hR,q⟩:=h
 refine⟨_,(ah (ay (i:=1) cY.nd rfl (aaM rfl) (aV ag))
 (ah (ay (i:=2) cY.nd rfl (aaM rfl) af)
 (ak (pH aa0 (cW d7)
 (ah (ay (i:=3) cY.nd rfl (aaM rfl) (ao sq (hr.mono (by decide)) rfl (aa (pv 0) (aa (pv 2) ag))))
 (ah (bh (bx aaD aaI aaL bg (pv 1) (aa (aq ar (pv 3) af (fun _ _=>rfl)) ag)))
 (ah (ay (i:=2) cY.nd rfl (aaM rfl) (aq ar (pv 3) af (fun _ _=>rfl)))
 (ah (aX (aE cg (pv 2) (aK aB rfl aY aaF (aa (pv 0) ag)) (aM _))
 (ak (aG (pv 1)))
 aI)
 (ah (aX (aE ib (aq aJ (pv 0) (pv 2) (fun _ _=>rfl)) aF (aM _))
 cj
 aI)
 (ak (zM (i:=2) cY.nd rfl (aaM rfl) af zN))))))))))),?_⟩
 refine⟨(by show 0≤aaj;decide),fun lf Lr=>?_⟩
 have hne:l≠lf:=aP hL Lr
 refine⟨Si K l lf ps fs H,⟨_,0,[],fs,[],none,rfl,rfl,aj Lr _,by rw [aH hne];exact hL,ae,.nil,by rw [acY];exact hR,rfl,by rw [acY];simpa using hz⟩,?_⟩
 rintro m σ H' ⟨p,done,rest,us,o3,rfl,rfl,sm,hL',hf',pr,hr',ed,hdl⟩
 obtain⟨f1,n,fs',rfl,hF,alt⟩:=hr'.head
 refine⟨_,rfl,cL ⟨fun σ' H2=>∃m',m'<(ps.drop p).length∧Si K l lf ps fs H m' σ' H2,fun σ' H2 z=>z,?_⟩⟩
 refine⟨_,rfl,_,rfl,l,ps,p,n,f1.k,f1.as,rfl,hL',hz,hF,fun t t1 t2 H2 s2 ht Ao qo=>?_⟩
 have U8:=s2 _ _ hf'
 have vP:=s2 _ _ hL'
 have hlen:us.length≤20000:=by
  have z:=pr.length
  omega
 refine⟨_,rfl,.inl ⟨rfl,_,aL.of U8⟩,_,rfl,t,_,0,_,rfl,rfl,bT.of ht,rfl,lf,_,_,rfl,rfl,U8,iC (by omega),?_⟩
 have htn:t≠lf:=Ce ht U8 (by intro z;cases z)
 have kp:Kp (upd H lf (.lst [])) H2 (upd H2 lf (.lst (us++[V.ref t1]))):=Kp.upd ae U8 (by intro xs z;cases z) (by intro o u z;cases z)
 have pr':Paired (Fact K (upd H2 lf (.lst (us++[V.ref t1])))) (done++[f1]) (us++[V.ref t1]):=by
  refine(L2.Paired.d9 pr fun a b z=>Fact.keep kp (Fact.keep (H0:=H) (Kp.same s2) z)).snoc ?_
  exact Fact.keep kp ⟨t1,t2,rfl,bT.of Ao,bT.of qo⟩
 have Ir:upd H2 lf (.lst (us++[V.ref t1])) l=some (.lst (ps.map tx)):=by rw [aH hne];exact vP
 have Pc:ai H (upd H2 lf (.lst (us++[V.ref t1]))):=ai.aR (ai.trans sm s2) Lr _
 refine⟨_,rfl,t,_,1,_,rfl,rfl,bT.of (by rw [aH htn];exact ht),rfl,?_⟩
 refine⟨_,rfl,_,rfl,l,_,rfl,.inl (aL.of Ir),rfl,_,rfl,?_⟩
 rw [Lm9]
 have hdr:(ps.drop p).length=ps.length - p:=aba ..
 rcases alt with⟨en,rfl⟩|⟨hn,U3,hR'⟩
 ·have z:decide (V.int ((p+n:Nat):Int)=V.int (ps.length:Int))=true:=by
   refine decide_eq_true ?_
   have:1≤(ps.drop p).length:=hr'.pos
   rw [show p+n=ps.length by omega]
  rw [z]
  refine cL ⟨_,rfl,q _ _ Pc ⟨lf,_,rfl,Lr,ae,?_⟩⟩
  rw [← ed]
  exact pr'
 ·have z:decide (V.int ((p+n:Nat):Int)=V.int (ps.length:Int))=false:=by
   refine decide_eq_false fun z=>?_
   have z':((p+n:Nat):Int)=(ps.length:Int):=by injection z
   omega
  rw [z]
  refine bo ?_
  have g:ps.getD (p+n) []=[44]:=by
   have z:=gE (l:=ps) (p:=p) (i:=n)
   rw [← z]
   exact U3
  refine⟨_,rfl,_,rfl,l,_,_,tx [44],rfl,rfl,aL.of Ir,?_,rfl,_,rfl,?_⟩
  ·refine bz ?_
   rw [aa6,Ge9 (by omega)]
   rw [Gd9,Ge9 (by omega)] at g
   exact congrArg (fun z=>some (tx z)) g
  ·have z2:decide (tx [44]=V.str (aaf ","))=true:=by decide +kernel
   rw [z2]
   refine bo ⟨_,rfl,_,_,rfl,rfl,(ps.drop (p+n+1)).length,?_,p+n+1,done++[f1],fs',_,_,rfl,rfl,Pc,Ir,ae,pr',?_,by rw [aaT];exact ed,?_⟩
   ·rw [aba,aba];omega
   ·rw [show p+n+1=p+(n+1) by omega,← acZ];exact hR'
   ·rw [aag,aba];simp only [aar,abb];omega
end
end ft
namespace ft
open PySem L2 cR Bk
set_option maxHeartbeats 4000000
section
variable {P:aaS} {w:abg} {K:aae} {mg:Str→Option aai} {base:Heap} {f:aaB} {fd:aa9} {c:Cl}
theorem vQ:aC ["line","bare"] ["line"] (au sj):=⟨rfl,rfl,rfl,by decide +kernel,rfl,by decide +kernel,by decide +kernel⟩
theorem E1 (F:dn K "is_told" "is_told" sj f fd):a4 P w K mg base dJ 1 f fd ["line"] JE:=by
 refine F.ok vQ (fun vs H Q E h=>?_) (fun cJ A outer s H vs Q E hr h=>?_)
 ·obtain⟨p,rfl,_⟩:=h
  rfl
 obtain⟨p,rfl,hx,q⟩:=h
 refine⟨_,(ah (ay (i:=1) vQ.nd rfl (aaM rfl) (bx aaC PySem.F.slot_str_strip PySem.F.type_str_strip Jq (pv 0) (aa aF ag)))
 (ak (aG (zL (cZ ib (pv 1) aF (aM _)) (uT (cZ ib (aq fW (pv 1) af (fun _ _=>rfl)) aF (aM _))))))),?_⟩
 obtain⟨b,eb,hb,eh⟩:=JD p
 refine⟨_,rfl,rfl,_,_,rfl,rfl,(by rw [aS];exact sz (by omega)),?_⟩
 rw [eb]
 unfold told at q
 refine⟨_,rfl,rfl,_,rfl,?_⟩
 have e0:(aaf "")=S []:=by decide +kernel
 rw [e0]
 cases hd:p.dropWhile (· == 32) with
 | nil =>
  rw [hd] at eh q
  have hb0:b=[]:=by
   cases b with
   | nil=>rfl
   | cons x r=>cases eh
  subst hb0
  rw [decide_eq_true rfl]
  exact bo q
 | cons x r =>
  rw [hd] at eh q
  obtain⟨b',rfl⟩:∃b',b=x::b':=by
   cases b with
   | nil=>cases eh
   | cons y r'=>exact⟨r',by rw [aa7 eh]⟩
  have e1:decide (V.str (S (x::b'))=V.str (S []))=false:=JB (a:=x::b') (b:=[]) (by simp)
  rw [e1]
  refine cL ⟨_,rfl,S (x::b'),0,x,rfl,rfl,(by rw [aS];exact sz (by omega)),?_,rfl,?_⟩
  ·rw [bH]
   exact bz (j:=0) rfl
  ·have e2:decide (V.str ⟨#[x]⟩=V.str (aaf "#"))=(x == 35):=by
    have e3:(aaf "#")=S [35]:=by decide +kernel
    rw [e3]
    have e4:=zZ [x] [35]
    show decide (tx [x]=tx [35])=_
    rw [e4]
    simp [aec]
   rw [e2]
   exact q
theorem xA:aC ["text"] ["text"] (au jK):=⟨rfl,rfl,rfl,by decide +kernel,rfl,by decide +kernel,by decide +kernel⟩
theorem xB (F:dn K "told_lines" "told_lines" jK f fd) (sr:dz P w K mg base "is_told" 1 ["line"] JE):a4 P w K mg base dJ 2 f fd ["text"] F9:=by
 refine F.ok xA (fun vs H Q E h=>?_) (fun cJ A outer s H vs Q E hr h=>?_)
 ·obtain⟨ls,rfl,_⟩:=h
  rfl
 obtain⟨ls,rfl,h0,hN,hx,q⟩:=h
 refine⟨_,(ak (aG (bG [] rfl (by kernel_rfl) (aT (bx aaC aci PySem.F.type_str_split Jp (pv 0) (aa aF ag))) (fun _ _ _ _ _=>(jB (cW (ao sr (hr.mono (by decide)) rfl (aa (pv 0) ag))))) (fun _ _ _ _ _=>(pv 0))))),?_⟩
 have U9:=yS ls
 refine⟨_,rfl,rfl,_,_,rfl,rfl,rfl,(by rw [aS];exact sz (by omega)),?_⟩
 rw [CH h0 hN]
 refine⟨(by rw [Lm9];exact sz (by omega)),fun l hl=>⟨l,rfl,⟨_,aL.of ae⟩,fun D hD=>?_⟩⟩
 have hDn:H D=none:=(aj hl _).free hD
 refine L6 (K:=K) (xs:=(ls.map S).map V.str) (by rw [Lm9,Lm9];exact iC (by omega)) hD (aL.of ae) (fun v=>match v with|.str x=>told x.cps.toList|_=>false) id (fun x H' R hm sm hR=>?_) (fun x H' R hm hk sm hR=>?_) (fun H' sm hL=>?_)
 ·obtain⟨z,hz,rfl⟩:=aay.mp hm
  obtain⟨y,hy,rfl⟩:=aay.mp hz
  refine⟨_,rfl,y,rfl,by have:=rY ls y hy;omega,_,rfl,?_⟩
  have z:R (told (S y).cps.toList) H':=hR H' (ai.refl H')
  rw [bH] at z
  exact z
 ·exact⟨_,rfl,hR H' (ai.refl H')⟩
 ·refine q _ _ (ai.trans (aj hl _) sm) ⟨D,rfl,hDn,?_⟩
  rw [hL,acr,abz]
  congr 2
  rw [List.filter_map]
  have e:((fun v=>match v with|V.str x=>told x.cps.toList|_=>false) ∘ (V.str ∘ S))=told:=by
   funext y
   show told (S y).cps.toList=told y
   rw [bH]
  rw [e]
  rfl
theorem vR:aC ["line"] ["line"] (au iI):=⟨rfl,rfl,rfl,by decide +kernel,rfl,by decide +kernel,by decide +kernel⟩
theorem vS {u1:aai} (F:dn K "line_pieces" "line_pieces" iI f fd) (vT:dz P w K mg base "pieces" 3 ["text","marks"] CA) (Ap:mg "LINE_MARKS"=some u1) (Aq:RelV (.str eE) u1):a4 P w K mg base dJ 4 f fd ["line"] JF:=by
 refine F.ok vR (fun vs H Q E h=>?_) (fun cJ A outer s H vs Q E hr h=>?_)
 ·obtain⟨p,rfl,_⟩:=h
  rfl
 obtain⟨p,rfl,hx,hok,q⟩:=h
 refine⟨_,(ak (aG (ao vT (hr.mono (by decide)) rfl (aa (pv 0) (aa (cU rfl Ap Aq) ag))))),?_⟩
 refine⟨_,rfl,_,_,rfl,by rw [aS];exact hx,by decide +kernel,by rw [bH];exact hok,fun l H' sm hl hL=>?_⟩
 rw [bH] at hL
 exact q _ _ sm ⟨l,rfl,hl,hL⟩
theorem Ar:aC ["found"] ["found"] (au ma):=⟨rfl,rfl,rfl,by decide +kernel,rfl,by decide +kernel,by decide +kernel⟩
theorem As {SG SH:aaB} (F:dn K "read_kind" "read_kind" ma f fd) (bK:dz P w K mg base "is_small_word" 3 ["text"] (Cz jD)) (aY:mg "len"=none) (Kw:mg "int"=none)
  (Au:mg "KIND_WORDS"=some (.ref SG)) (Av:∀H,bT K H SG [tx bq,tx br]) (Kx:mg "COUNTS"=some (.ref SH)) (Ky:∀H,bT K H SH [tx [48],tx [49],tx [50],tx [51],tx [52]]) :
  a4 P w K mg base dJ 4 f fd ["found"] (JG K):=by
 have Aw:RelV (.ref SG) (.ref SG):=rfl
 have Kz:RelV (.ref SH) (.ref SH):=rfl
 refine F.ok Ar (fun vs H Q E h=>?_) (fun cJ A outer s H vs Q E hr h=>?_)
 ·obtain⟨l,k,rfl,_⟩:=h
  rfl
 obtain⟨l,⟨n,c,b⟩,rfl,hL,hn,hc,q⟩:=h
 have hn:a6 n=true:=hn
 have hc:c≤4:=hc
 have hL':H l=some (.lst [tx (if b=true then br else bq),tx n,tx [48+c]]):=hL
 refine⟨_,(ah (aX (PW.pt (yD (aE ib (aK aB rfl aY aaF (aa (pv 0) ag)) af (aM _)) (zK (aE dB (aq aJ (pv 0) af (fun _ _=>rfl)) (cU rfl Au Aw) (by with_unfolding_all rfl)))))
 cj
 aI)
 (ah (aX (jv (cW (ao bK (hr.mono (by decide)) rfl (aa (aq aJ (pv 0) af (fun _ _=>rfl)) ag))))
 cj
 aI)
 (ah (aX (aE dB (aq aJ (pv 0) af (fun _ _=>rfl)) (cU rfl Kx Kz) (by with_unfolding_all rfl))
 cj
 aI)
 (ak (aG (bD (aa (aq aJ (pv 0) af (fun _ _=>rfl)) (aa (cX xt rfl Kw PyProof.Rows.Boot.«int» (aa (aq aJ (pv 0) af (fun _ _=>rfl)) ag)) (aa (cZ cg (aq aJ (pv 0) af (fun _ _=>rfl)) aF (aM _)) ag))))))))),?_⟩
 refine⟨_,rfl,l,_,rfl,.inl (aL.of hL'),rfl,_,rfl,bo ?_⟩
 refine⟨_,rfl,l,_,0,_,rfl,rfl,aL.of hL',rfl,SG,_,rfl,.inr (Av _),rfl,rfl,_,rfl,?_⟩
 have e1:Ln (tx (if b=true then br else bq)) [tx bq,tx br]=true:=by cases b <;> decide +kernel
 rw [e1]
 refine bo ?_
 refine⟨_,rfl,l,_,1,_,rfl,rfl,aL.of hL',rfl,S n,rfl,by have:=dW hn;rw [aS];omega,fun H1 s1=>⟨_,rfl,?_⟩⟩
 rw [Cy,hn]
 refine bo ?_
 have rT:=s1 _ _ hL'
 refine⟨_,rfl,l,_,2,_,rfl,rfl,aL.of rT,rfl,SH,_,rfl,.inr (Ky _),rfl,rfl,_,rfl,?_⟩
 have e2:Ln (tx [48+c]) [tx [48],tx [49],tx [50],tx [51],tx [52]]=true:=by
  rcases(by omega:c=0∨c=1∨c=2∨c=3∨c=4) with e|e|e|e|e <;> subst e <;> decide +kernel
 rw [e2]
 refine bo ?_
 have e3:PySem.intText? (S [48+c])=some (c:Int):=by
  rcases(by omega:c=0∨c=1∨c=2∨c=3∨c=4) with e|e|e|e|e <;> subst e <;> decide +kernel
 refine⟨_,rfl,l,_,1,_,rfl,rfl,aL.of rT,rfl,_,rfl,l,_,2,_,rfl,rfl,aL.of rT,rfl,_,_,rfl,e3,(by rw [aS];show 1≤640;decide),?_⟩
 refine⟨_,rfl,l,_,0,_,rfl,rfl,aL.of rT,rfl,rfl,(by show 3≤aaj;decide),fun t ht=>?_⟩
 have e4:decide (tx (if b=true then br else bq)=V.str (aaf "lasting"))=b:=by cases b <;> decide +kernel
 rw [e4]
 exact q _ _ (ai.trans s1 (aj ht _)) ⟨t,rfl,bT.of ae⟩
end
end ft
namespace ft
open PySem L2 cR Bk
set_option maxHeartbeats 4000000
section
variable {P:aaS} {w:abg} {K:aae} {mg:Str→Option aai} {base:Heap} {f:aaB} {fd:aa9} {c:Cl}
theorem MJ {xs:List V} {v:V}:lu (xs++[v]) (-1)=some v:=by
 unfold lu
 have e:IZ (xs++[v]).length (-1)=some xs.length:=by
  unfold IZ
  rw [aag,abk,if_neg (by decide)]
  simp
  omega
 rw [e]
 simp
theorem su:aC ["found","mark","rows","piece"] ["found","mark"] (au vO):=⟨rfl,rfl,rfl,by decide +kernel,rfl,by decide +kernel,by decide +kernel⟩
theorem Ht (F:dn K "parted" "parted" vO f fd):a4 P w K mg base dJ 1 f fd ["found","mark"] p8:=by
 refine F.ok su (fun vs H Q E h=>?_) (fun cJ A outer s H vs Q E hr h=>?_)
 ·obtain⟨l,ps,m,rfl,_⟩:=h
  rfl
 obtain⟨l,ps,m,rfl,hL,hz,q⟩:=h
 refine⟨_,(ah (ay (i:=2) su.nd rfl (aaM rfl) (aV (aa (aV ag) ag)))
 (ah (b8 aa0 rfl (aT (pv 0)) (bw (i:=3) su.nd rfl (aaM rfl))
 (ak (aX (aE cg (pv 3) (pv 1) (aM _))
 (ak (bh (bx aaD aaI aaL bg (pv 2) (aa (aV ag) ag))))
 (ak (bh (bx aaD aaI aaL bg (aq aJ (pv 2) (RB OQ af) (fun _ _=>rfl)) (aa (pv 3) ag)))))))
 (ak (aG (pv 2))))),?_⟩
 refine⟨(by show 0≤aaj;decide),fun b0 hb0=>⟨(by show 1≤aaj;decide),fun lr rJ=>?_⟩⟩
 have n0r:b0≠lr:=fun z=>by rw [← z,ae] at rJ;cases rJ
 have SI:H lr=none:=(aj hb0 _).free rJ
 have s0:ai H (upd (upd H b0 (.lst [])) lr (.lst [V.ref b0])):=ai.trans (aj hb0 _) (aj rJ _)
 refine⟨_,rfl,l,rfl,⟨_,aL.of (s0 _ _ hL)⟩,bP (K:=K) (a:=l) (xs:=ps.map tx) (fun i σ H'=>∃(bs:List aaB) (o:Option V),σ=[some (.ref l),some (tx m),some (.ref lr),o]∧ai H H'∧H' lr=some (.lst (bs.map V.ref)) ∧
   Paired (fun row b=>H b=none∧b≠lr∧H' b=some (.lst (row.map tx))) (cM m (ps.take i) [[]]) bs∧bs.Nodup)
  ⟨[b0],none,rfl,s0,ae,.cons ⟨hb0,n0r,by rw [aH n0r];exact ae⟩ .nil,by simp⟩ (fun i σ H' _ ⟨_,_,_,sm,_⟩=>aL.of (sm _ _ hL)) ?_ ?_⟩
 ·rintro i y σ H' hi ⟨bs,o,rfl,sm,hr',pr,nd⟩
  have hil:i<ps.length:=by
   have:=(aau.mp hi).1
   simpa using this
  obtain rfl:y=tx ps[i]:=by
   rw [aa6,Ge9 hil] at hi
   exact(aa7 hi).symm
  have stp:cM m (ps.take (i+1)) [[]]=jd m ps[i] (cM m (ps.take i) [[]]):=by
   rw [aak hil,p7]
  have hbl:bs.length≤20002:=by
   have z:=aao pr
   have z2:=tq m (ps.take i) [[]]
   rw [aaA] at z2
   simp only [aar,abb] at z2
   omega
  refine⟨_,rfl,_,rfl,rfl,_,rfl,?_⟩
  rw [zZ]
  refine eV (fun e=>?_) (fun e=>?_)
  ·have e':ps[i]=m:=of_decide_eq_true e
   refine⟨_,rfl,.inl ⟨rfl,_,aL.of hr'⟩,(by show 0≤aaj;decide),fun b hb=>?_⟩
   have W2:b≠lr:=fun z=>by rw [z,hr'] at hb;cases hb
   have hbH:H b=none:=sm.free hb
   have MH:upd H' b (.lst []) lr=some (.lst (bs.map V.ref)):=by rw [aH (ack W2)];exact hr'
   refine⟨lr,_,_,rfl,rfl,MH,(by rw [Lm9];exact iC (by omega)),bs++[b],_,rfl,ai.aR (ai.aR sm hbH _) SI _,?_,?_,?_⟩
   ·rw [ae,aat]
    rfl
   ·rw [stp]
    unfold jd
    rw [if_pos e']
    have p2:Paired (fun row x=>H x=none∧x≠lr∧upd (upd H' b (.lst [])) lr (.lst (bs.map V.ref++[V.ref b])) x=some (.lst (row.map tx))) (cM m (ps.take i) [[]]) bs:=L2.Paired.d9 pr fun row x z=>⟨z.1,z.2.1,by
     rw [aH z.2.1,aH (aP z.2.2 hb)]
     exact z.2.2⟩
    exact p2.snoc ⟨hbH,W2,by rw [aH W2];exact ae⟩
   ·rw [acu]
    refine⟨nd,by simp,?_⟩
    intro x hx y hy
    rw [aal.mp hy]
    intro z
    subst z
    obtain⟨row,_,hrw⟩:=oC pr hx
    rw [hrw.2.2] at hb
    cases hb
  ·have e':ps[i]≠m:=fun z=>by rw [decide_eq_true z] at e;exact e rfl
   obtain⟨a1,row,b1,b,e1,e2,p1,hb⟩:=tj pr (vx m _ _ (by simp))
   have oP:row.length≤20000:=by
    have z:=vy m (ps.take i) [[]] 0 (by intro r hr;rw [aal.mp hr];exact aaz _) row (by rw [e1];simp)
    rw [aaA] at z
    omega
   have SJ:H' lr=some (.lst (b1.map V.ref++[V.ref b])):=by
    rw [hr',e2,aat]
    rfl
   refine⟨_,rfl,_,rfl,lr,_,_,V.ref b,rfl,rfl,aL.of SJ,MJ,.inl ⟨rfl,_,aL.of hb.2.2⟩,_,rfl,b,_,_,rfl,rfl,hb.2.2,(by rw [Lm9];exact iC (by omega)),?_⟩
   refine⟨bs,_,rfl,ai.aR sm hb.1 _,by rw [aH (ack hb.2.1)];exact hr',?_,nd⟩
   rw [stp]
   unfold jd
   rw [if_neg e',e1,aek,show(a1++[row]).getLastD []=row by simp,e2]
   rw [e2,acu] at nd
   refine ae2 ?_ ⟨hb.1,hb.2.1,?_⟩
   ·refine ax p1 fun r x hx z=>⟨z.1,z.2.1,?_⟩
    rw [aH (nd.2.2 x hx b (by simp))]
    exact z.2.2
   ·rw [ae,aat]
    rfl
 ·rintro σ H' ⟨bs,o,rfl,sm,hr',pr,nd⟩
  rw [Lm9,aa1] at pr
  refine⟨_,rfl,q _ _ sm ⟨lr,_,rfl,SI,hr',?_⟩⟩
  exact tm (L2.Paired.d9 pr fun row b z=>(⟨b,rfl,z.1,z.2.2⟩:NU H H' row (V.ref b)))
end
end ft
namespace ft
open PySem L2 cR Bk
set_option maxHeartbeats 4000000
section
variable {P:aaS} {w:abg} {K:aae} {mg:Str→Option aai} {base:Heap} {f:aaB} {fd:aa9} {c:Cl}
theorem oQ:aC ["found"] ["found"] (au fe):=⟨rfl,rfl,rfl,by decide +kernel,rfl,by decide +kernel,by decide +kernel⟩
theorem oR (F:dn K "check_two_names" "check_two_names" fe f fd) (dO:dz P w K mg base "is_name" 2 ["text"] (Cz gm)) (aY:mg "len"=none):a4 P w K mg base dJ 3 f fd ["found"] JI:=by
 refine F.ok oQ (fun vs H Q E h=>?_) (fun cJ A outer s H vs Q E hr h=>?_)
 ·obtain⟨l,a,m,b,rfl,_⟩:=h
  rfl
 obtain⟨l,a,m,b,rfl,hL,ha,hb,q⟩:=h
 refine⟨_,(ak (aX (PW.pt (yD (aE ib (aK aB rfl aY aaF (aa (pv 0) ag)) af (aM _)) (yD (jv (cW (ao dO (hr.mono (by decide)) rfl (aa (aq aJ (pv 0) af (fun _ _=>rfl)) ag)))) (zK (jv (cW (ao dO (hr.mono (by decide)) rfl (aa (aq aJ (pv 0) af (fun _ _=>rfl)) ag))))))))
 cj
 aI)),?_⟩
 refine⟨_,rfl,l,_,rfl,.inl (aL.of hL),rfl,_,rfl,bo ?_⟩
 refine⟨_,rfl,l,_,0,_,rfl,rfl,aL.of hL,rfl,S a,rfl,by have:=eO ha;rw [aS];omega,fun H1 s1=>⟨_,rfl,?_⟩⟩
 rw [p6,ha]
 refine bo ⟨_,rfl,l,_,2,_,rfl,rfl,aL.of (s1 _ _ hL),rfl,S b,rfl,by have:=eO hb;rw [aS];omega,fun H2 s2=>⟨_,rfl,?_⟩⟩
 rw [p6,hb]
 exact bo (q _ (ai.trans s1 s2))
theorem Ax:aC ["self","left","right"] ["self","left","right"] (au lY):=⟨rfl,rfl,rfl,by decide +kernel,rfl,by decide +kernel,by decide +kernel⟩
theorem Ay (F:dn K "__init__" "Look.__init__" lY f fd):a4 P w K mg base dJ 1 f fd ["self","left","right"] (jE K):=by
 refine F.ok Ax (fun vs H Q E h=>?_) (fun cJ A outer s H vs Q E hr h=>?_)
 ·obtain⟨C,p,dx,l,r,rfl,_⟩:=h
  rfl
 obtain⟨C,p,dx,l,r,rfl,T,hp,q⟩:=h
 refine⟨_,(ah (ps_fld (pv 0) (pv 1) rfl)
 (ak (ps_fld (pv 0) (pv 2) rfl))),?_⟩
 refine⟨_,rfl,_,rfl,p,C,dx,[],rfl,hp,T.cl,T.nL,(by show 0<1000;decide),_,rfl,_,rfl,p,C,dx,_,rfl,ae,T.cl,T.nR,(by show 1<1000;decide),?_⟩
 refine q _ _ ae ?_ ?_ ?_ ?_ fun b o e hb=>?_
 ·rw [a5,if_neg (by decide +kernel),a5,if_pos rfl]
 ·rw [a5,if_pos rfl]
 ·rw [a5,if_neg (by decide +kernel),a5,if_neg (by decide +kernel)]
  rfl
 ·rw [a5,if_neg (by decide +kernel),a5,if_neg (by decide +kernel)]
  rfl
 ·rw [aH hb,aH hb]
  exact e
theorem zq {H:Hp} {C:aaB} {a b:V} {Q:VK} (T:xw K C) (q:∀x dx fs H',ai H H'→H x=none→H' x=some (.ins C dx fs)→fs.lookup ("left":Str)=some a→fs.lookup ("right":Str)=some b→fs.lookup ("holds":Str)=none→fs.lookup ("word":Str)=none→Q (.ref x) H') :
  ∀x dx,H x=none→H dx=none→dx≠x→jE K (.ref x::([a,b]++[])) (upd (upd H dx (.own x)) x (.ins C dx [])) (fun v H2=>v=.cB∧Q (.ref x) H2) E0:=fun x dx hx SK UU=>by
 refine⟨C,x,dx,a,b,rfl,T,ae,fun H' fs h1 h2 h3 h4 h5 kp=>⟨rfl,q x dx fs H' (fun b o e=>kp b o ?_ (aP e hx)) hx h1 h2 h3 h4 h5⟩⟩
 rw [aH (aP e hx),aH (aP e SK)]
 exact e
theorem Az:aC ["found"] ["found"] (au mh):=⟨rfl,rfl,rfl,by decide +kernel,rfl,by decide +kernel,by decide +kernel⟩
theorem AA (F:dn K "read_look" "read_look" mh f fd) (cD:dz P w K mg base "check_two_names" 3 ["found"] JI) (Ts:xw K c.same) (Tu:xw K c.unlike)
  (E2:L5 P w K mg base "Same" c.same 1 ["self","left","right"] (jE K)) (vU:L5 P w K mg base "Unlike" c.unlike 1 ["self","left","right"] (jE K)):a4 P w K mg base dJ 4 f fd ["found"] (JJ c):=by
 refine F.ok Az (fun vs H Q E h=>?_) (fun cJ A outer s H vs Q E hr h=>?_)
 ·obtain⟨l,k,rfl,_⟩:=h
  rfl
 obtain⟨l,⟨sm,a,b⟩,rfl,hL,ha,hb,q⟩:=h
 have hL':H l=some (.lst [tx a,tx (if sm=true then iD else eF),tx b]):=hL
 refine⟨_,(ah (bh (ao cD (hr.mono (by decide)) rfl (aa (pv 0) ag)))
 (ah (aX (aE cg (aq aJ (pv 0) af (fun _ _=>rfl)) aF (aM _))
 (ak (aG (pS E2 (hr.mono (by decide)) rfl (aa (aq aJ (pv 0) af (fun _ _=>rfl)) (aa (aq aJ (pv 0) af (fun _ _=>rfl)) ag)))))
 aI)
 (ah (aX (aE cg (aq aJ (pv 0) af (fun _ _=>rfl)) aF (aM _))
 (ak (aG (pS vU (hr.mono (by decide)) rfl (aa (aq aJ (pv 0) af (fun _ _=>rfl)) (aa (aq aJ (pv 0) af (fun _ _=>rfl)) ag)))))
 aI)
 (ak IF)))),?_⟩
 refine⟨_,rfl,l,a,_,b,rfl,hL',ha,hb,fun H1 s1=>?_⟩
 have rT:=s1 _ _ hL'
 refine⟨_,rfl,l,_,1,_,rfl,rfl,aL.of rT,rfl,rfl,_,rfl,?_⟩
 cases sm with
 | true =>
  have e:decide (tx (if true=true then iD else eF)=V.str (aaf "same"))=true:=by decide +kernel
  rw [e]
  refine cL ⟨_,rfl,l,_,0,_,rfl,rfl,aL.of rT,rfl,_,rfl,l,_,2,_,rfl,rfl,aL.of rT,rfl,zq Ts fun x dx fs H' s' hx h1 h2 h3 h4 h5=>?_⟩
  exact q _ _ (ai.trans s1 s') ⟨x,dx,fs,rfl,s1.free hx,h1,h2,h3,h4,h5⟩
 | false =>
  have e:decide (tx (if false=true then iD else eF)=V.str (aaf "same"))=false:=by decide +kernel
  have e2:decide (tx (if false=true then iD else eF)=V.str (aaf "unlike"))=true:=by decide +kernel
  rw [e]
  refine bo ⟨_,rfl,l,_,1,_,rfl,rfl,aL.of rT,rfl,rfl,_,rfl,?_⟩
  rw [e2]
  refine cL ⟨_,rfl,l,_,0,_,rfl,rfl,aL.of rT,rfl,_,rfl,l,_,2,_,rfl,rfl,aL.of rT,rfl,zq Tu fun x dx fs H' s' hx h1 h2 h3 h4 h5=>?_⟩
  exact q _ _ (ai.trans s1 s') ⟨x,dx,fs,rfl,s1.free hx,h1,h2,h3,h4,h5⟩
theorem AB:aC ["found"] ["found"] (au mi):=⟨rfl,rfl,rfl,by decide +kernel,rfl,by decide +kernel,by decide +kernel⟩
theorem AD (F:dn K "read_pair" "read_pair" mi f fd) (cD:dz P w K mg base "check_two_names" 3 ["found"] JI):a4 P w K mg base dJ 4 f fd ["found"] (JK K):=by
 refine F.ok AB (fun vs H Q E h=>?_) (fun cJ A outer s H vs Q E hr h=>?_)
 ·obtain⟨l,k,rfl,_⟩:=h
  rfl
 obtain⟨l,⟨a,b⟩,rfl,hL,ha,hb,q⟩:=h
 have hL':H l=some (.lst [tx a,tx [61],tx b]):=hL
 refine⟨_,(ah (bh (ao cD (hr.mono (by decide)) rfl (aa (pv 0) ag)))
 (ah (aX (aE ib (aq aJ (pv 0) af (fun _ _=>rfl)) aF (aM _))
 cj
 aI)
 (ak (aG (bD (aa (aq aJ (pv 0) af (fun _ _=>rfl)) (aa (aq aJ (pv 0) af (fun _ _=>rfl)) ag))))))),?_⟩
 refine⟨_,rfl,l,a,_,b,rfl,hL',ha,hb,fun H1 s1=>?_⟩
 have rT:=s1 _ _ hL'
 refine⟨_,rfl,l,_,1,_,rfl,rfl,aL.of rT,rfl,rfl,_,rfl,?_⟩
 have e:decide (tx [61]=V.str (aaf "="))=true:=by decide +kernel
 rw [e]
 refine bo ⟨_,rfl,l,_,0,_,rfl,rfl,aL.of rT,rfl,_,rfl,l,_,2,_,rfl,rfl,aL.of rT,rfl,(by show 2≤aaj;decide),fun t ht=>?_⟩
 exact q _ _ (ai.trans s1 (aj ht _)) ⟨t,rfl,bT.of ae⟩
theorem Hu {ks:List Lk} (h:∀k∈ks,aD k.l=true∧aD k.r=true):∀q∈ks.map je,([44]:Cs)∉q:=by
 intro q hq hm
 obtain⟨k,hk,rfl⟩:=aay.mp hq
 have hn:=h k hk
 unfold je at hm
 rcases aaN.mp hm with e|hm
 ·exact m6 hn.1 e.symm
 rcases aaN.mp hm with e|hm
 ·revert e;cases k.same <;> decide
 ·exact m6 hn.2 (aal.mp hm).symm
theorem Hv {ks:List (Cs × Cs)} (h:∀k∈ks,aD k.1=true∧aD k.2=true):∀q∈ks.map jf,([44]:Cs)∉q:=by
 intro q hq hm
 obtain⟨k,hk,rfl⟩:=aay.mp hq
 have hn:=h k hk
 unfold jf at hm
 rcases aaN.mp hm with e|hm
 ·exact m6 hn.1 e.symm
 rcases aaN.mp hm with e|hm
 ·revert e;decide
 ·exact m6 hn.2 (aal.mp hm).symm
theorem Gz:(aaf ",")=S [44]:=by decide +kernel
theorem P6:(aaf ";")=S [59]:=by decide +kernel
theorem xC:aC ["found"] ["found"] (au jL):=⟨rfl,rfl,rfl,by decide +kernel,rfl,by decide +kernel,by decide +kernel⟩
theorem xD (F:dn K "read_looks" "read_looks" jL f fd) (fg:dz P w K mg base "parted" 1 ["found","mark"] p8) (mB:dz P w K mg base "read_look" 4 ["found"] (JJ c)):a4 P w K mg base dJ 5 f fd ["found"] (Ga c):=by
 refine F.ok xC (fun vs H Q E h=>?_) (fun cJ A outer s H vs Q E hr h=>?_)
 ·obtain⟨l,k,rfl,_⟩:=h
  rfl
 obtain⟨l,ks,rfl,hL,h0,hz,hn,q⟩:=h
 refine⟨_,(ak (aG (bG [] rfl (by kernel_rfl) (aT (ao fg (hr.mono (by decide)) rfl (aa (pv 0) (aa aF ag)))) (fun _ _ _ _ _=>bE) (fun _ _ _ _ _=>(ao mB (hr.mono (by decide)) rfl (aa (pv 0) ag)))))),?_⟩
 refine⟨_,rfl,l,_,[44],by rw [Gz];rfl,hL,?_,fun v H1 s1 R=>?_⟩
 ·have z:=vz (m:=[44]) (ks.map je) 3 (by intro q hq;obtain⟨k,_,rfl⟩:=aay.mp hq;exact aaz _)
  rw [Lm9] at z
  omega
 have e:=gq (m:=[44]) (ks.map je) [] (by simpa using h0) (Hu hn)
 rw [abD] at e
 rw [e,abD] at R
 obtain⟨lr,vs,rfl,rJ,hR,pr⟩:=R
 have hlen:=aao pr
 rw [Lm9] at hlen
 refine⟨lr,rfl,⟨_,aL.of hR⟩,fun D hD=>?_⟩
 refine cS (K:=K) (xs:=vs) ks (fun H0 H b y=>pX c H0 H b y) (fun _ _ _ _ _ k h=>h.keep k) (fun _ _ _ _ _ d h=>h.cG d) (iC (by omega)) hD (aL.of hR) hlen (fun i x k H' R hx hk sm hQ=>?_) (fun H' ys sm hL' po=>?_)
 ·have hi:i<vs.length:=(aau.mp hx).1
  have Iu:i<ks.length:=(aau.mp hk).1
  have ex:vs[i]=x:=(aau.mp hx).2
  have ek:ks[i]=k:=(aau.mp hk).2
  obtain⟨b,eb,hb,oP⟩:=paired_at pr i (by rw [Lm9];exact Iu) hi
  rw [aaG,ek] at oP
  rw [ex] at eb
  subst eb
  have hm:=hn k (by rw [← ek];exact aap Iu)
  exact⟨_,rfl,b,k,rfl,sm _ _ oP,hm.1,hm.2,fun v ig s2 ho=>hQ v ig s2 ho⟩
 ·refine q _ _ (ai.trans s1 sm) ⟨D,ys,rfl,s1.free hD,hL',L2.Paired.d9 po fun b y z=>z.cG fun _ h=>s1.free h⟩
theorem xE:aC ["found"] ["found"] (au jM):=⟨rfl,rfl,rfl,by decide +kernel,rfl,by decide +kernel,by decide +kernel⟩
theorem xF (F:dn K "read_pairs" "read_pairs" jM f fd) (fg:dz P w K mg base "parted" 1 ["found","mark"] p8) (mC:dz P w K mg base "read_pair" 4 ["found"] (JK K)):a4 P w K mg base dJ 5 f fd ["found"] (Gb K):=by
 refine F.ok xE (fun vs H Q E h=>?_) (fun cJ A outer s H vs Q E hr h=>?_)
 ·obtain⟨l,k,rfl,_⟩:=h
  rfl
 obtain⟨l,ks,rfl,hL,h0,hz,hn,q⟩:=h
 refine⟨_,(ak (aG (bG [] rfl (by kernel_rfl) (aT (ao fg (hr.mono (by decide)) rfl (aa (pv 0) (aa aF ag)))) (fun _ _ _ _ _=>bE) (fun _ _ _ _ _=>(ao mC (hr.mono (by decide)) rfl (aa (pv 0) ag)))))),?_⟩
 refine⟨_,rfl,l,_,[44],by rw [Gz];rfl,hL,?_,fun v H1 s1 R=>?_⟩
 ·have z:=vz (m:=[44]) (ks.map jf) 3 (by intro q hq;obtain⟨k,_,rfl⟩:=aay.mp hq;exact aaz _)
  rw [Lm9] at z
  omega
 have e:=gq (m:=[44]) (ks.map jf) [] (by simpa using h0) (Hv hn)
 rw [abD] at e
 rw [e,abD] at R
 obtain⟨lr,vs,rfl,rJ,hR,pr⟩:=R
 have hlen:=aao pr
 rw [Lm9] at hlen
 refine⟨lr,rfl,⟨_,aL.of hR⟩,fun D hD=>?_⟩
 refine cS (K:=K) (xs:=vs) ks (fun _ H b y=>Pair K H b y) (fun _ _ _ _ _ k h=>h.keep k) (fun _ _ _ _ _ _ h=>h) (iC (by omega)) hD (aL.of hR) hlen (fun i x k H' R hx hk sm hQ=>?_) (fun H' ys sm hL' po=>?_)
 ·have hi:i<vs.length:=(aau.mp hx).1
  have Iu:i<ks.length:=(aau.mp hk).1
  have ex:vs[i]=x:=(aau.mp hx).2
  have ek:ks[i]=k:=(aau.mp hk).2
  obtain⟨b,eb,hb,oP⟩:=paired_at pr i (by rw [Lm9];exact Iu) hi
  rw [aaG,ek] at oP
  rw [ex] at eb
  subst eb
  have hm:=hn k (by rw [← ek];exact aap Iu)
  exact⟨_,rfl,b,k,rfl,sm _ _ oP,hm.1,hm.2,fun v ig s2 ho=>hQ v ig s2 ho⟩
 ·exact q _ _ (ai.trans s1 sm) ⟨D,ys,rfl,s1.free hD,hL',po⟩
theorem AE:aC ["word","found"] ["word","found"] (au mf):=⟨rfl,rfl,rfl,by decide +kernel,rfl,by decide +kernel,by decide +kernel⟩
theorem AF (F:dn K "read_part" "read_part" mf f fd) (j6:dz P w K mg base "read_looks" 5 ["found"] (Ga c)) (j7:dz P w K mg base "read_pairs" 5 ["found"] (Gb K)) (gS:dz P w K mg base "row_of_facts" 5 ["found"] (NT K)) :
  a4 P w K mg base dJ 6 f fd ["word","found"] (JL K c):=by
 refine F.ok AE (fun vs H Q E h=>?_) (fun cJ A outer s H vs Q E hr h=>?_)
 ·obtain⟨l,n,ps,p,rfl,_⟩:=h
  rfl
 obtain⟨l,n,ps,p,rfl,hL,hz,hP,q⟩:=h
 refine⟨_,(ah (aX (aE cg (pv 0) aF (aM _))
 (ak (aG (ao j6 (hr.mono (by decide)) rfl (aa (pv 1) ag))))
 aI)
 (ah (aX (aE cg (pv 0) aF (aM _))
 (ak (aG (ao j7 (hr.mono (by decide)) rfl (aa (pv 1) ag))))
 aI)
 (ak (aG (ao gS (hr.mono (by decide)) rfl (aa (pv 1) ag)))))),?_⟩
 refine⟨_,rfl,rfl,_,rfl,?_⟩
 cases hP with
 | lk h0 hl h =>
  have e:decide (tx (wordAt 2)=V.str (aaf "look"))=true:=by decide +kernel
  rw [e]
  exact cL ⟨_,rfl,l,_,rfl,hL,h0,hl,h,fun v H' s' ho=>q v H' s' ho⟩
 | pr h0 hl h =>
  have e:decide (tx (wordAt 4)=V.str (aaf "look"))=false:=by decide +kernel
  have e2:decide (tx (wordAt 4)=V.str (aaf "tell"))=true:=by decide +kernel
  rw [e]
  refine bo ⟨_,rfl,rfl,_,rfl,?_⟩
  rw [e2]
  exact cL ⟨_,rfl,l,_,rfl,hL,h0,hl,h,fun v H' s' ho=>q v H' s' ho⟩
 | fs hn h =>
  have e:decide (tx (wordAt n)=V.str (aaf "look"))=false:=by rcases hn with e|e|e <;> subst e <;> decide +kernel
  have e2:decide (tx (wordAt n)=V.str (aaf "tell"))=false:=by rcases hn with e|e|e <;> subst e <;> decide +kernel
  rw [e]
  refine bo ⟨_,rfl,rfl,_,rfl,?_⟩
  rw [e2]
  exact bo ⟨_,rfl,l,_,_,rfl,hL,hz,h,fun v H' s' ho=>q v H' s' ho⟩
end
end ft
namespace ft
open PySem L2 cR Bk
set_option maxHeartbeats 4000000
section
variable {P:aaS} {w:abg} {K:aae} {mg:Str→Option aai} {base:Heap} {f:aaB} {fd:aa9} {c:Cl}
abbrev gU:List V:=[tx bJ,tx bR,tx bN,tx dA,tx cn]
theorem KA {n:Nat} (hn:n≤5):fQ gU (some (n:Int)) none=gU.drop n:=by
 rcases(by omega:n=0∨n=1∨n=2∨n=3∨n=4∨n=5) with e|e|e|e|e|e <;> subst e <;> rfl
theorem MK {m n:Nat} (h:m≤n) (hn:n<5):Ln (tx (wordAt n)) (gU.drop m)=true:=by
 rcases(by omega:n=0∨n=1∨n=2∨n=3∨n=4) with e|e|e|e|e <;> subst e <;>
 rcases(by omega:m=0∨m=1∨m=2∨m=3∨m=4) with e|e|e|e|e <;> subst e <;> first|omega|decide +kernel
theorem vV (m:Nat):(gU.drop m).all i6=true:=by
 rw [aa4]
 intro x hx
 have hx':=abT hx
 rcases aaN.mp hx' with e|hx'
 ·rw [e];rfl
 rcases aaN.mp hx' with e|hx'
 ·rw [e];rfl
 rcases aaN.mp hx' with e|hx'
 ·rw [e];rfl
 rcases aaN.mp hx' with e|hx'
 ·rw [e];rfl
 ·rw [aal.mp hx'];rfl
theorem E3 {n:Nat} (hn:n<5):(∃z,gU[n]?=some z∧Ip z (tx (wordAt n))=true)∧∀m z,m<n→gU[m]?=some z→Ip z (tx (wordAt n))=false:=by
 rcases(by omega:n=0∨n=1∨n=2∨n=3∨n=4) with e|e|e|e|e <;> subst e <;> refine⟨⟨_,rfl,by decide +kernel⟩,fun m z hm hz=>?_⟩
 ·omega
 all_goals
  rcases(by omega:m=0∨m=1∨m=2∨m=3) with e|e|e|e <;> subst e <;> first|omega|(cases hz;decide +kernel)
theorem dF:aC ["found","title","parts","earliest","piece","word"] ["found"] (au me):=⟨rfl,rfl,rfl,by decide +kernel,rfl,by decide +kernel,by decide +kernel⟩
theorem AG {P7:aaB} {u1:aai} (F:dn K "read_rule" "read_rule" me f fd) (bO:dz P w K mg base "piece_at" 1 ["found","place"] uF) (bK:dz P w K mg base "is_small_word" 3 ["text"] (Cz jD)) (fg:dz P w K mg base "parted" 1 ["found","mark"] p8)
  (mD:dz P w K mg base "read_part" 6 ["word","found"] (JL K c)) (mE:mg "RULE_WORD"=some u1) (mF:RelV (tx dc) u1) (qp:mg "PART_WORDS"=some (.ref P7)) (qq:∀H,bT K H P7 gU) (AH:∃o,K.lookup P7=some o∧o.cls=.type "tuple"∧o.dict=none) :
  a4 P w K mg base dJ 7 f fd ["found"] (JM K c):=by
 have qr:RelV (.ref P7) (.ref P7):=rfl
 refine F.ok dF (fun vs H Q E h=>?_) (fun cJ A outer s H vs Q E hr h=>?_)
 ·obtain⟨l,title,L,rfl,_⟩:=h
  rfl
 obtain⟨l,title,L,rfl,hL,hz,R,q⟩:=h
 have hu:=FQ hr
 refine⟨_,(ah (ay (i:=1) dF.nd rfl (aaM rfl) (ao bO (hr.mono (by decide)) rfl (aa (pv 0) (aa af ag))))
 (ah (aX (PW.pt (yD (aE ib (ao bO (hr.mono (by decide)) rfl (aa (pv 0) (aa af ag))) (cU rfl mE mF) (aM _)) (yD (jv (cW (ao bK (hr.mono (by decide)) rfl (aa (pv 1) ag)))) (zK (aE ib (ao bO (hr.mono (by decide)) rfl (aa (pv 0) (aa af ag))) aF (aM _))))))
 cj
 aI)
 (ah (ay (i:=2) dF.nd rfl (aaM rfl) Cv)
 (ah (ay (i:=3) dF.nd rfl (aaM rfl) af)
 (ah (b8 aa0 rfl (aT (ao fg (hr.mono (by decide)) rfl (aa (cy fI (pv 0) (cv af) d4) (aa aF ag)))) (bw (i:=4) dF.nd rfl (aaM rfl))
 (ah (ay (i:=5) dF.nd rfl (aaM rfl) (ao bO (hr.mono (by decide)) rfl (aa (pv 4) (aa af ag))))
 (ah (aX (aE dB (pv 5) (cy FX (cU rfl qp qr) (cv (pv 3)) d4) (by with_unfolding_all rfl))
 cj
 aI)
 (ah (ay (i:=3) dF.nd rfl (aaM rfl) (aw cE (bx PySem.F.plainAttrs_tuple adK PySem.F.type_tuple_index Jv (cU rfl qp qr) (aa (pv 5) ag)) af))
 (ak (FZ hu (pv 2) (pv 5) (ao mD (hr.mono (by decide)) rfl (aa (pv 5) (aa (cy fI (pv 4) (cv af) d4) ag))) rfl))))))
 (ah (aX (PW.pt (lB (Ei (rS hu aF (pv 2))) (hV (Ei (rS hu aF (pv 2))))))
 cj
 aI)
 (ak (aG (bD (aa (pv 1) (aa (pv 2) ag))))))))))),?_⟩
 refine⟨_,rfl,l,_,1,rfl,hL,hz,?_⟩
 have W3:=dW R.tt
 refine⟨_,rfl,l,_,0,rfl,hL,hz,rfl,_,rfl,?_⟩
 have e0:decide (tx ((gI title L).getD 0 [])=tx dc)=true:=decide_eq_true rfl
 rw [e0]
 refine bo ⟨_,rfl,S title,rfl,by rw [aS];omega,fun H1 s1=>⟨_,rfl,?_⟩⟩
 rw [Cy,R.tt]
 have rT:=s1 _ _ hL
 refine bo ⟨_,rfl,l,_,2,rfl,rT,hz,rfl,_,rfl,?_⟩
 have e2:decide (tx ((gI title L).getD 2 [])=V.str (aaf ":"))=true:=by
  show decide (tx [58]=V.str (aaf ":"))=true
  decide +kernel
 rw [e2]
 refine bo ?_
 intro d hd
 have Va:H d=none:=s1.free hd
 have s2:ai H (upd H1 d (.dK [])):=ai.aR s1 Va _
 refine⟨_,rfl,_,rfl,l,_,rfl,.inl (.inl (s2 _ _ hL)),fun l2 i8=>?_⟩
 have W4:fQ ((gI title L).map tx) (some (3:Int)) none=(glue [59] (L.map fun x=>wordAt x.n::x.ps)).map tx:=lG (k:=3) (by rw [Lm9];show 3≤(glue [59] (L.map fun x=>wordAt x.n::x.ps)).length+3;omega)
 rw [W4]
 have SM:(glue [59] (L.map fun x=>wordAt x.n::x.ps)).length≤20000:=by
  have z:(gI title L).length=(glue [59] (L.map fun x=>wordAt x.n::x.ps)).length+3:=rfl
  omega
 have KC:H l2=none:=s2.free i8
 have s3:ai H (upd (upd H1 d (.dK [])) l2 (.lst ((glue [59] (L.map fun x=>wordAt x.n::x.ps)).map tx))):=ai.aR s2 KC _
 have QW:d≠l2:=fun z=>by rw [← z,ae] at i8;cases i8
 refine⟨l2,_,[59],by rw [P6];rfl,ae,SM,fun v H2 s4 RW=>?_⟩
 have W5:∀q∈L.map (fun x=>wordAt x.n::x.ps),([59]:Cs)∉q:=by
  intro q hq hm
  obtain⟨x,hx,rfl⟩:=aay.mp hq
  rcases aaN.mp hm with e|hm
  ·have Vb:=(rZ R.inc x hx).2
   revert e
   rcases(by omega:x.n=0∨x.n=1∨x.n=2∨x.n=3∨x.n=4) with e|e|e|e|e <;> rw [e] <;> decide
  ·exact R.no x hx hm
 have eP:=gq (m:=[59]) (L.map fun x=>wordAt x.n::x.ps) [] (by simpa using R.ne) W5
 rw [abD] at eP
 rw [eP,abD] at RW
 obtain⟨lr,rows,rfl,rJ,hR,pr⟩:=RW
 have SN:=aao pr
 rw [Lm9] at SN
 have hd2:H2 d=some (.dK []):=s4 _ _ (by rw [aH QW];exact ae)
 have Iv:ai H H2:=ai.trans s3 s4
 have aaK:L.length≤5:=Ge R.inc (by omega)
 refine⟨lr,rfl,⟨_,aL.of hR⟩,bP (K:=K) (a:=lr) (xs:=rows) (fun i σ H'=>∃(kvs:List (Key × V)) (m:Nat) (o4 o5:Option V),σ=[some (.ref l),some (tx title),some (.ref d),some (.int m),o4,o5]∧m≤5∧(∀x∈L.drop i,m≤x.n) ∧
   (∀b o,b≠d→H2 b=some o→H' b=some o)∧(∀b,H' b=none→H2 b=none)∧H' d=some (.dK kvs)∧dD K c (upd H1 d (.dK [])) H' (L.take i) kvs)
  ⟨[],0,none,none,rfl,by omega,fun _ _=>abt _,fun _ _ _ h=>h,fun _ h=>h,hd2,.nil⟩ (fun i σ H' _ ⟨_,_,_,_,_,_,_,k1,_⟩=>aL.of (k1 _ _ (Ce hR hd2 (by intro z;cases z)) hR)) ?_ ?_⟩
 ·rintro i y σ H' hi ⟨kvs,m,o4,o5,rfl,hm5,hmx,k1,k2,Iw,pa⟩
  have hir:i<rows.length:=(aau.mp hi).1
  have E4:i<L.length:=by omega
  have ey:rows[i]=y:=(aau.mp hi).2
  obtain⟨b,eb,hb0,Vc⟩:=paired_at pr i (by rw [Lm9];exact E4) hir
  rw [aaG] at Vc
  rw [ey] at eb
  subst eb
  have QX:L[i]∈L:=aap E4
  generalize hx:L[i]=x at Vc QX
  have Vb:=(rZ R.inc x QX).2
  have WG:m≤x.n:=hmx x (by rw [← hx];exact abB (by rw [List.getElem?_drop,Nat.add_zero];exact Ge9 E4))
  have hbd:b≠d:=Ce Vc hd2 (by intro z;cases z)
  have hb':=k1 _ _ hbd Vc
  have hxl:(wordAt x.n::x.ps).length≤20000:=by
   have z:=CI (m:=[59]) (L.map fun x=>wordAt x.n::x.ps) (wordAt x.n::x.ps) (aay.mpr ⟨x,QX,rfl⟩)
   omega
  refine⟨_,rfl,b,_,0,rfl,hb',hxl,?_⟩
  refine⟨_,rfl,_,rfl,_,rfl,P7,_,rfl,qq _,fun p H3 QY hp=>?_⟩
  rw [KA hm5] at hp
  refine⟨p,_,rfl,.inr hp,rfl,vV m,_,rfl,?_⟩
  have ein:(if true=true then !Ln (tx ((wordAt x.n::x.ps).getD 0 [])) (gU.drop m) else Ln (tx ((wordAt x.n::x.ps).getD 0 [])) (gU.drop m))=false:=by
   rw [if_pos rfl]
   show(!Ln (tx (wordAt x.n)) (gU.drop m))=false
   rw [MK WG Vb]
   rfl
  rw [ein]
  refine bo ?_
  obtain⟨wp1,wp2⟩:=E3 Vb
  refine⟨.inr (.inl ⟨rfl,AH⟩),_,rfl,P7,gU,_,x.n,rfl,rfl,qq _,rfl,vV 0,wp1,wp2,_,_,rfl,rfl,?_⟩
  have hb3:=QY _ _ hb'
  refine⟨_,rfl,_,rfl,_,rfl,b,_,rfl,.inl (.inl hb3),fun l3 Du=>?_⟩
  have ec:fQ ((wordAt x.n::x.ps).map tx) (some (1:Int)) none=x.ps.map tx:=lG (k:=1) (by rw [Lm9,aar];omega)
  rw [ec]
  have Vd:H3 d=some (.dK kvs):=QY _ _ Iw
  have nd3:d≠l3:=aP Vd Du
  refine⟨l3,x.n,x.ps,x.p,rfl,ae,by rw [aar] at hxl;omega,R.ok x QX,fun v H5 s5 Ve=>?_⟩
  have Vf:ai H3 H5:=ai.trans (aj Du _) s5
  have hd5:H5 d=some (.dK kvs):=Vf _ _ Vd
  have N6:kvs.length≤5:=by
   have z:=aao pa
   rw [aaA] at z
   omega
  have Jt:cb kvs (aa3 (S (wordAt x.n)):Key)=none:=yT fun kv Vg e=>by
   obtain⟨z,hz,hz2⟩:=oC pa Vg
   rw [hz2.1] at e
   have e2:wordAt z.n=wordAt x.n:=sY (ac8 e)
   have ia:=JN R.inc i E4
   rw [hx] at ia
   have t9:=ia.1 z hz
   have:=vA (by omega) Vb e2
   omega
  have kp:Kp (upd H1 d (.dK [])) H5 (upd H5 d (.dK (kvs++[(aa3 (S (wordAt x.n)),v)]))):=Kp.upd ae hd5 (by intro xs z;cases z) (by intro o u z;cases z)
  have k25:∀b,H5 b=none→H2 b=none:=fun b h=>k2 b (ai.free (ai.trans QY Vf) h)
  refine⟨_,rfl,_,rfl,d,_,rfl,G9.k (k:=(aa3 (S (wordAt x.n)):Key)) hd5 (iC (by omega)),?_⟩
  rw [Ct _ Jt]
  refine⟨kvs++[(aa3 (S (wordAt x.n)),v)],x.n+1,_,_,rfl,by omega,fun z hz=>?_,fun b' o hb hH=>?_,fun b' h=>k25 b' (kp.vq b' h),ae,?_⟩
  ·have z2:=yU R.inc i E4 z hz
   rw [hx] at z2
   omega
  ·rw [aH hb]
   exact Vf _ _ (QY _ _ (k1 _ _ hb hH))
  ·rw [aak E4,hx]
   refine((dD.keep (Kp.same (ai.trans QY Vf)) pa).keep kp).snoc ⟨rfl,?_⟩
   refine dC.keep kp (dC.cG (fun b h=>?_) Ve)
   have h3:H3 b=none:=(aj Du _).free h
   exact(ai.trans (aj i8 _) s4).free (k2 b (QY.free h3))
 ·rintro σ H' ⟨kvs,m,o4,o5,rfl,hm5,hmx,k1,k2,Iw,pa⟩
  have SJ:rows.length=L.length:=SN.symm
  rw [SJ,aa1] at pa
  have sH:ai H H':=fun b o e=>k1 b o (aP e Va) (Iv b o e)
  have fin:∀t,H' t=none→Q (.ref t) (upd H' t (.tup [tx title,.ref d])):=fun t ht=>by
   have ntd:d≠t:=aP Iw ht
   refine q t d kvs _ (ai.trans sH (aj ht _)) ae Va (by rw [aH ntd];exact Iw) ?_
   exact L2.Paired.d9 pa fun x kv z=>⟨z.1,dC.cG (fun b h=>ai.free (ai.aR s1 Va _) h) (z.2.keep (Kp.same (aj ht _)))⟩
  refine⟨_,rfl,d,_,rfl,jC.k (k:=(aa3 (aaf "take"):Key)) Iw,_,rfl,?_⟩
  obtain⟨x,QX,W6⟩:=R.hd
  have Hw:=yV pa QX
  rcases W6 with e|e
  ·rw [e] at Hw
   have e2:(S (wordAt 0))=aaf "take":=by decide +kernel
   rw [e2] at Hw
   rw [Hw]
   exact bo ⟨_,rfl,_,rfl,(by show 2≤aaj;decide),fin⟩
  ·rw [e] at Hw
   have e2:(S (wordAt 1))=aaf "keep":=by decide +kernel
   rw [e2] at Hw
   have two:∀b:Bool,(if b=true then (∃a o,V.ref d=.ref a∧jC H' a (.str (aaf "keep")) o∧False) else True)→True:=fun _ _=>trivial
   refine eV (fun _=>⟨_,rfl,d,_,rfl,jC.k (k:=(aa3 (aaf "keep"):Key)) Iw,_,rfl,?_⟩) (fun _=>bo ⟨_,rfl,_,rfl,(by show 2≤aaj;decide),fin⟩)
   rw [Hw]
   exact bo ⟨_,rfl,_,rfl,(by show 2≤aaj;decide),fin⟩
end
end ft
namespace ft
open PySem L2 cR Bk
set_option maxHeartbeats 4000000
section
variable {P:aaS} {w:abg} {K:aae} {mg:Str→Option aai} {base:Heap} {f:aaB} {fd:aa9} {c:Cl}
theorem Dv:aC ["name"] ["name"] (au oG):=⟨rfl,rfl,rfl,by decide +kernel,rfl,by decide +kernel,by decide +kernel⟩
theorem Dw {u1:aai} (F:dn K "is_great" "is_great" oG f fd) (Am:mg "GREAT"=some u1) (An:RelV (.str eX) u1):a4 P w K mg base dJ 1 f fd ["name"] z0:=by
 refine F.ok Dv (fun vs H Q E h=>?_) (fun cJ A outer s H vs Q E hr h=>?_)
 ·obtain⟨p,rfl,_⟩:=h
  rfl
 obtain⟨p,rfl,h1,hx,q⟩:=h
 refine⟨_,(ak (aG (cZ gD (aq fW (pv 0) af (fun _ _=>rfl)) (cU rfl Am An) (by with_unfolding_all rfl)))),?_⟩
 have hl:1≤(S p).length:=by
  rw [aS]
  cases p with
  | nil=>exact absurd rfl h1
  | cons a r=>simp
 refine⟨_,rfl,S p,0,_,rfl,rfl,(by rw [aS];exact sz (by omega)),uD hl,_,_,rfl,rfl,?_⟩
 rw [ab9,bH]
 exact q
theorem fK:aC ["facts","found","fact","name"] ["facts"] (au jO):=⟨rfl,rfl,rfl,by decide +kernel,rfl,by decide +kernel,by decide +kernel⟩
theorem xG (F:dn K "open_names" "open_names" jO f fd) (fE:dz P w K mg base "is_great" 1 ["name"] z0) (vW:mg "list"=none):a4 P w K mg base dJ 2 f fd ["facts"] (Gf K):=by
 refine F.ok fK (fun vs H Q E h=>?_) (fun cJ A outer s H vs Q E hr h=>?_)
 ·obtain⟨l,us,fs,rfl,_⟩:=h
  rfl
 obtain⟨l,us,fs,rfl,hL,hP,hz,hok,AI,q⟩:=h
 have hu:=FQ hr
 refine⟨_,(ah (ay (i:=1) fK.nd rfl (aaM rfl) Cv)
 (ah (b8 aa0 rfl (aT (pv 0)) (bw (i:=2) fK.nd rfl (aaM rfl))
 (ak (b8 aa0 rfl (El (aq ar (pv 2) af (fun _ _=>rfl))) (bw (i:=3) fK.nd rfl (aaM rfl))
 (ak (aX (cW (ao fE (hr.mono (by decide)) rfl (aa (pv 3) ag)))
 (ak (FZ hu (pv 1) (pv 3) d7 rfl))
 aI)))))
 (ak (aG (cX (vi rfl) rfl vW PyProof.Rows.Boot.«list» (aa (pv 1) ag)))))),?_⟩
 intro d hd
 have hPl:=aao hP
 refine⟨_,rfl,l,rfl,⟨_,aL.of ((aj hd _) _ _ hL)⟩,bP (K:=K) (a:=l) (xs:=us) (fun i σ H'=>∃o2 o3,σ=[some (.ref l),some (.ref d),o2,o3]∧ai H H'∧H' d=some (.dK ((eQ ((fs.take i).flatMap (·.as)) []).map xx))∧(eQ ((fs.take i).flatMap (·.as)) []).length≤((fs.take i).flatMap (·.as)).length)
  ⟨none,none,rfl,aj hd _,ae,aaz _⟩ (fun i σ H' _ ⟨_,_,_,sm,_⟩=>aL.of (sm _ _ hL)) ?_ ?_⟩
 ·rintro i y σ H' hi ⟨o2,o3,rfl,sm,Iw,Ju⟩
  have xi:i<us.length:=(aau.mp hi).1
  have sv:i<fs.length:=by omega
  have ey:us[i]=y:=(aau.mp hi).2
  obtain⟨t,t2,et,h1,h2⟩:=paired_at hP i sv xi
  rw [ey] at et
  subst et
  have h1':bT K H' t [tx fs[i].k,.ref t2]:=h1.same sm
  have fok:=hok fs[i] (aap sv)
  generalize N7:eQ ((fs.take i).flatMap (·.as)) []=Dx at Iw Ju
  have aaQ:∀j,eQ (((fs.take i).flatMap (·.as))++(fs[i].as.take j)) []=eQ (fs[i].as.take j) Dx:=fun j=>by rw [r6,N7]
  have aaR:((fs.take i).flatMap (·.as)).length+fs[i].as.length≤20000:=by
   have e:fs.flatMap (·.as)=(fs.take i).flatMap (·.as)++(fs[i].as++(fs.drop (i+1)).flatMap (·.as)):=by
    rw [← abY,← abq,← abE sv,ac3]
   have z:=congrArg aco e
   rw [aag,aag] at z
   omega
  refine⟨_,rfl,t,_,1,_,rfl,rfl,h1',rfl,t2,rfl,⟨_,h2.same sm⟩,Fz (K:=K) (a:=t2) (xs:=fs[i].as.map tx) (fun j σ H2=>∃o3,σ=[some (.ref l),some (.ref d),some (.ref t),o3]∧ai H H2∧H2 d=some (.dK ((eQ (fs[i].as.take j) Dx).map xx))∧(eQ (fs[i].as.take j) Dx).length≤Dx.length+j)
   ⟨_,rfl,sm,Iw,aaz _⟩ (fun j σ H2 _ ⟨_,_,nM,_⟩=>h2.same nM) ?_ ?_⟩
  ·rintro j y σ H2 hj ⟨o3',rfl,nM,KD,i8⟩
   have W7:j<fs[i].as.length:=by
    have:=(aau.mp hj).1
    simpa using this
   obtain rfl:y=tx fs[i].as[j]:=by
    rw [aa6,Ge9 W7] at hj
    exact(aa7 hj).symm
   have nD:=eO (fok.2.2 _ (aap W7))
   have st:eQ (fs[i].as.take (j+1)) Dx=kU fs[i].as[j] (eQ (fs[i].as.take j) Dx):=by
    rw [aak W7,r6]
    rfl
   have Du:=He fs[i].as[j] (eQ (fs[i].as.take j) Dx)
   refine⟨_,rfl,fs[i].as[j],rfl,(fun z=>by rw [z] at nD;simp at nD),by omega,_,rfl,?_⟩
   refine eV (fun g=>?_) (fun g=>?_)
   ·refine⟨_,rfl,_,rfl,d,_,rfl,G9.k (k:=(aa3 (S fs[i].as[j]):Key)) KD (by rw [Lm9];exact iC (by omega)),?_⟩
    rw [JQ]
    refine⟨_,rfl,ai.aR nM hd _,?_,?_⟩
    ·rw [ae,st]
     unfold kU
     rw [if_pos g]
    ·rw [st];omega
   ·refine⟨_,rfl,nM,?_,?_⟩
    ·rw [st]
     unfold kU
     rw [if_neg g]
     exact KD
    ·rw [st];omega
  ·rintro σ H2 ⟨o3',rfl,nM,KD,i8⟩
   rw [Lm9,aa1] at KD i8
   have e:eQ ((fs.take (i+1)).flatMap (·.as)) []=eQ fs[i].as Dx:=by
    rw [aak sv,abq,r6,N7]
    simp
   refine⟨_,_,rfl,nM,by rw [e];exact KD,?_⟩
   rw [e,aak sv,abq,aag,show([fs[i]].flatMap (·.as))=fs[i].as by simp]
   omega
 ·rintro σ H' ⟨o2,o3,rfl,sm,Iw,Ju⟩
  rw [← hPl,aa1] at Iw
  refine⟨_,rfl,d,_,rfl,Iw,fun l2 i8=>?_⟩
  refine q _ _ (ai.trans sm (aj i8 _)) ⟨l2,rfl,sm.free i8,?_⟩
  rw [ae,JP,abz]
  rfl
theorem AJ:aC ["self","title","parts"] ["self","title","parts"] (au mj):=⟨rfl,rfl,rfl,by decide +kernel,rfl,by decide +kernel,by decide +kernel⟩
theorem AK (F:dn K "__init__" "Rule.__init__" mj f fd) (T:z7 K c.rule) (j8:dz P w K mg base "open_names" 2 ["facts"] (Gf K)):a4 P w K mg base dJ 3 f fd ["self","title","parts"] (uG K c):=by
 refine F.ok AJ (fun vs H Q E h=>?_) (fun cJ A outer s H vs Q E hr h=>?_)
 ·obtain⟨H0,p,dx,d,title,L,kvs,u0,rfl,_⟩:=h
  rfl
 obtain⟨H0,p,dx,d,title,L,kvs,u0,rfl,hp,W8,vq,hd,pa,h5,hok,SO,q⟩:=h
 have hu:=FQ hr
 refine⟨_,(ah (ps_fld (pv 0) (pv 1) rfl)
 (ah (ps_fld (pv 0) (lI hu (pv 2) aF (aV ag) ⟨rfl,rfl,rfl,rfl⟩) rfl)
 (ah (ps_fld (pv 0) (lI hu (pv 2) aF (aV ag) ⟨rfl,rfl,rfl,rfl⟩) rfl)
 (ah (ps_fld (pv 0) (lI hu (pv 2) aF (aV ag) ⟨rfl,rfl,rfl,rfl⟩) rfl)
 (ah (ps_fld (pv 0) (lI hu (pv 2) aF (aV ag) ⟨rfl,rfl,rfl,rfl⟩) rfl)
 (ah (ps_fld (pv 0) (lI hu (pv 2) aF (aV ag) ⟨rfl,rfl,rfl,rfl⟩) rfl)
 (ak (ps_fld (pv 0) (ao j8 (hr.mono (by decide)) rfl (aa (aw cF (pe_fld (pv 0) rfl) (pe_fld (pv 0) rfl)) ag)) rfl)))))))),?_⟩
 have npd:p≠d:=Ce hp hd (by intro z;cases z)
 have QZ:∀(o:HO),(∃fs,o=.ins c.rule dx fs)→(∀xs,o≠.tup xs)∧∀ob u,o≠.xf ob u:=fun o ⟨fs,e⟩=>⟨(by intro xs z;rw [e] at z;cases z),(by intro ob u z;rw [e] at z;cases z)⟩
 refine⟨_,rfl,_,rfl,p,c.rule,dx,[],rfl,hp,T.cl,T.n1,(by show 0<1000;decide),?_⟩
 have key:∀(H1:Hp) (Ls:List (Str × V)) (n:Str),H1 p=some (.ins c.rule dx Ls)→H1 d=some (.dK kvs)→dD K c H0 H1 L kvs→(∀b,H1 b=none→H0 b=none)→(∀b o,H b=some o→b≠p→H1 b=some o) →
   ∀l,H1 l=none→∀y:V,(upd (upd H1 l (.lst [])) p (.ins c.rule dx (bS n y Ls))) p=some (.ins c.rule dx (bS n y Ls))∧(upd (upd H1 l (.lst [])) p (.ins c.rule dx (bS n y Ls))) d=some (.dK kvs) ∧
    Kp H0 H1 (upd (upd H1 l (.lst [])) p (.ins c.rule dx (bS n y Ls)))∧H0 l=none∧upd H1 l (.lst []) l=some (.lst [])∧upd H1 l (.lst []) d=some (.dK kvs)∧upd H1 l (.lst []) p=some (.ins c.rule dx Ls)∧dD K c H0 (upd H1 l (.lst [])) L kvs ∧
    (∀b o,H b=some o→b≠p→(upd (upd H1 l (.lst [])) p (.ins c.rule dx (bS n y Ls))) b=some o)∧Kp H0 (upd H1 l (.lst [])) (upd (upd H1 l (.lst [])) p (.ins c.rule dx (bS n y Ls))):=by
  intro H1 Ls n h1p h1d W9 SQ h1k l hl y
  have s1:=aj hl (.lst [])
  have h2p:=s1 _ _ h1p
  have NO:Kp H0 (upd H1 l (.lst [])) (upd (upd H1 l (.lst [])) p (.ins c.rule dx (bS n y Ls))):=Kp.upd W8 h2p (QZ _ ⟨_,rfl⟩).1 (QZ _ ⟨_,rfl⟩).2
  refine⟨ae,by rw [aH (ack npd)];exact s1 _ _ h1d,(Kp.same s1).trans NO,SQ l hl,ae,s1 _ _ h1d,h2p,W9.keep (Kp.same s1),fun b o e hb=>?_,NO⟩
  rw [aH hb]
  exact s1 _ _ (h1k b o e hb)
 have QR:Kp H0 H (upd H p (.ins c.rule dx (bS "title" (tx title) []))):=Kp.upd W8 hp (QZ _ ⟨_,rfl⟩).1 (QZ _ ⟨_,rfl⟩).2
 have g1p:(upd H p (.ins c.rule dx (bS "title" (tx title) []))) p=some (.ins c.rule dx (bS "title" (tx title) [])):=ae
 have Xa:(upd H p (.ins c.rule dx (bS "title" (tx title) []))) d=some (.dK kvs):=by rw [aH (ack npd)];exact hd
 have g1k:∀b o,H b=some o→b≠p→(upd H p (.ins c.rule dx (bS "title" (tx title) []))) b=some o:=fun b o e hb=>by rw [aH hb];exact e
 have P8:=pa.keep QR
 have KH:∀b,(upd H p (.ins c.rule dx (bS "title" (tx title) []))) b=none→H0 b=none:=fun b h=>vq b (QR.vq b h)
 generalize upd H p (.ins c.rule dx (bS "title" (tx title) []))=H1 at QR g1p Xa g1k P8 KH ⊢
 refine⟨_,rfl,d,rfl,.inl ⟨_,.inl Xa⟩,(by show 0≤aaj;decide),fun l1 vh=>?_⟩
 obtain⟨SR,SS,P9,Xb,Xc,Xd,Xe,Xf,SU,N8⟩:=key H1 _ "taken" g1p Xa P8 KH g1k l1 vh ((cb kvs (aa3 (aaf "take"):Key)).getD (.ref l1))
 refine⟨_,jC.k (k:=(aa3 (aaf "take"):Key)) Xd,_,rfl,p,c.rule,dx,_,rfl,Xe,T.cl,T.n2,(by show 1<1000;decide),?_⟩
 have v1:=(EJ Xf h5 hok (n:=0) (by decide) Xb Xc).keep N8
 rw [show S (wordAt 0)=aaf "take" by decide +kernel] at v1
 have Qa:=P8.keep P9
 have KI:∀b,_=none→H0 b=none:=fun b h=>KH b (P9.vq b h)
 generalize hH2:upd (upd H1 l1 (.lst [])) p (.ins c.rule dx (bS "taken" ((cb kvs (aa3 (aaf "take"):Key)).getD (.ref l1)) (bS "title" (tx title) [])))=H2 at SR SS P9 SU N8 Qa KI v1  ⊢
 have g2p:=SR
 have g2d:=SS
 have g2k:=SU
 refine⟨_,rfl,d,rfl,.inl ⟨_,.inl g2d⟩,(by show 0≤aaj;decide),fun l2 i8=>?_⟩
 obtain⟨SV,SW,ML,Xg,Xh,Xi,Xj,Xk,SX,N9⟩:=key H2 _ "kept" g2p g2d Qa KI g2k l2 i8 ((cb kvs (aa3 (aaf "keep"):Key)).getD (.ref l2))
 refine⟨_,jC.k (k:=(aa3 (aaf "keep"):Key)) Xi,_,rfl,p,c.rule,dx,_,rfl,Xj,T.cl,T.n3,(by show 2<1000;decide),?_⟩
 have v2:=(EJ Xk h5 hok (n:=1) (by decide) Xg Xh).keep N9
 rw [show S (wordAt 1)=aaf "keep" by decide +kernel] at v2
 have Qb:=Qa.keep ML
 have KJ:∀b,_=none→H0 b=none:=fun b h=>KI b (ML.vq b h)
 have v1:=v1.keep ML
 generalize hH3:upd (upd H2 l2 (.lst [])) p (.ins c.rule dx (bS "kept" ((cb kvs (aa3 (aaf "keep"):Key)).getD (.ref l2)) (bS "taken" ((cb kvs (aa3 (aaf "take"):Key)).getD (.ref l1)) (bS "title" (tx title) []))))=H3 at SV SW ML SX N9 Qb KJ v2 v1 ⊢
 have g3p:=SV
 have g3d:=SW
 have g3k:=SX
 refine⟨_,rfl,d,rfl,.inl ⟨_,.inl g3d⟩,(by show 0≤aaj;decide),fun l3 Du=>?_⟩
 obtain⟨SY,S0,KL,Xl,Xm,Xn,Xo,Xp,S1,Oa⟩:=key H3 _ "looks" g3p g3d Qb KJ g3k l3 Du ((cb kvs (aa3 (aaf "look"):Key)).getD (.ref l3))
 refine⟨_,jC.k (k:=(aa3 (aaf "look"):Key)) Xn,_,rfl,p,c.rule,dx,_,rfl,Xo,T.cl,T.n4,(by show 3<1000;decide),?_⟩
 have v3:=(Pq Xp h5 hok Xl Xm).keep Oa
 rw [show S (wordAt 2)=aaf "look" by decide +kernel] at v3
 have Qc:=Qb.keep KL
 have KN:∀b,_=none→H0 b=none:=fun b h=>KJ b (KL.vq b h)
 have v1:=v1.keep KL
 have v2:=v2.keep KL
 generalize hH4:upd (upd H3 l3 (.lst [])) p (.ins c.rule dx (bS "looks" ((cb kvs (aa3 (aaf "look"):Key)).getD (.ref l3)) (bS "kept" ((cb kvs (aa3 (aaf "keep"):Key)).getD (.ref l2)) (bS "taken" ((cb kvs (aa3 (aaf "take"):Key)).getD (.ref l1)) (bS "title" (tx title) [])))))=H4 at SY S0 KL S1 Oa Qc KN v3 v1 v2 ⊢
 have g4p:=SY
 have g4d:=S0
 have g4k:=S1
 refine⟨_,rfl,d,rfl,.inl ⟨_,.inl g4d⟩,(by show 0≤aaj;decide),fun l4 S2=>?_⟩
 obtain⟨S3,S4,Hx,Xq,Xr,Xs,Xt,Xu,S5,Ob⟩:=key H4 _ "given" g4p g4d Qc KN g4k l4 S2 ((cb kvs (aa3 (aaf "put"):Key)).getD (.ref l4))
 refine⟨_,jC.k (k:=(aa3 (aaf "put"):Key)) Xs,_,rfl,p,c.rule,dx,_,rfl,Xt,T.cl,T.n5,(by show 4<1000;decide),?_⟩
 have v4:=(EJ Xu h5 hok (n:=3) (by decide) Xq Xr).keep Ob
 rw [show S (wordAt 3)=aaf "put" by decide +kernel] at v4
 have Qd:=Qc.keep Hx
 have KO:∀b,_=none→H0 b=none:=fun b h=>KN b (Hx.vq b h)
 have v1:=v1.keep Hx
 have v2:=v2.keep Hx
 have v3:=v3.keep Hx
 generalize hH5:upd (upd H4 l4 (.lst [])) p (.ins c.rule dx (bS "given" ((cb kvs (aa3 (aaf "put"):Key)).getD (.ref l4)) (bS "looks" ((cb kvs (aa3 (aaf "look"):Key)).getD (.ref l3)) (bS "kept" ((cb kvs (aa3 (aaf "keep"):Key)).getD (.ref l2)) (bS "taken" ((cb kvs (aa3 (aaf "take"):Key)).getD (.ref l1)) (bS "title" (tx title) []))))))=H5 at S3 S4 Hx S5 Ob Qd KO v4 v1 v2 v3 ⊢
 have g5p:=S3
 have g5d:=S4
 have g5k:=S5
 refine⟨_,rfl,d,rfl,.inl ⟨_,.inl g5d⟩,(by show 0≤aaj;decide),fun l5 Q0=>?_⟩
 obtain⟨S6,S7,E5,Xv,Xw,Xx,Xy,Xz,S8,Oc⟩:=key H5 _ "told" g5p g5d Qd KO g5k l5 Q0 ((cb kvs (aa3 (aaf "tell"):Key)).getD (.ref l5))
 refine⟨_,jC.k (k:=(aa3 (aaf "tell"):Key)) Xx,_,rfl,p,c.rule,dx,_,rfl,Xy,T.cl,T.n6,(by show 5<1000;decide),?_⟩
 have v5:=(Pu Xz h5 hok Xv Xw).keep Oc
 rw [show S (wordAt 4)=aaf "tell" by decide +kernel] at v5
 have XA:=Qd.keep E5
 have KP:∀b,_=none→H0 b=none:=fun b h=>KO b (E5.vq b h)
 have v1:=v1.keep E5
 have v2:=v2.keep E5
 have v3:=v3.keep E5
 have v4:=v4.keep E5
 generalize hH6:upd (upd H5 l5 (.lst [])) p (.ins c.rule dx (bS "told" ((cb kvs (aa3 (aaf "tell"):Key)).getD (.ref l5)) (bS "given" ((cb kvs (aa3 (aaf "put"):Key)).getD (.ref l4)) (bS "looks" ((cb kvs (aa3 (aaf "look"):Key)).getD (.ref l3)) (bS "kept" ((cb kvs (aa3 (aaf "keep"):Key)).getD (.ref l2)) (bS "taken" ((cb kvs (aa3 (aaf "take"):Key)).getD (.ref l1)) (bS "title" (tx title) [])))))))=H6 at S6 S7 E5 S8 Oc XA KP v5 v1 v2 v3 v4 ⊢
 have Vh:=S6
 have g6d:=S7
 have g6k:=S8
 generalize ED:(bS "told" ((cb kvs (aa3 (aaf "tell"):Key)).getD (.ref l5)) (bS "given" ((cb kvs (aa3 (aaf "put"):Key)).getD (.ref l4)) (bS "looks" ((cb kvs (aa3 (aaf "look"):Key)).getD (.ref l3)) (bS "kept" ((cb kvs (aa3 (aaf "keep"):Key)).getD (.ref l2)) (bS "taken" ((cb kvs (aa3 (aaf "take"):Key)).getD (.ref l1)) (bS "title" (tx title) []))))))=Iy at Vh ⊢
 have lk:∀n:Str,Iy.lookup n=if n="told" then some ((cb kvs (aa3 (aaf "tell"):Key)).getD (.ref l5)) else if n="given" then some ((cb kvs (aa3 (aaf "put"):Key)).getD (.ref l4)) else if n="looks" then some ((cb kvs (aa3 (aaf "look"):Key)).getD (.ref l3)) else if n="kept" then some ((cb kvs (aa3 (aaf "keep"):Key)).getD (.ref l2)) else if n="taken" then some ((cb kvs (aa3 (aaf "take"):Key)).getD (.ref l1)) else if n="title" then some (tx title) else none:=fun n=>by
  rw [← ED,a5,a5,a5,a5,a5,a5]
  rfl
 obtain⟨lt,ut,et,nt,ht,pt⟩:=id v1
 obtain⟨lk2,uk,ek,nk,hk,pk⟩:=id v2
 have lkT:Iy.lookup ("taken":Str)=some (.ref lt):=by
  rw [lk,if_neg (by decide +kernel),if_neg (by decide +kernel),if_neg (by decide +kernel),if_neg (by decide +kernel),if_pos rfl,et]
 have lkK:Iy.lookup ("kept":Str)=some (.ref lk2):=by
  rw [lk,if_neg (by decide +kernel),if_neg (by decide +kernel),if_neg (by decide +kernel),if_pos rfl,ek]
 have XC:Iy.length<1000:=by
  rw [← ED]
  show 6<1000
  decide
 have zl1:=aao pt
 have zl2:=aao pk
 have hfew:=SO.few
 have XD:(ue title L).take++(ue title L).keep=xy 0 L++xy 1 L:=rfl
 rw [XD,aag] at hfew
 refine⟨_,rfl,p,c.rule,dx,Iy,_,rfl,Vh,T.cl,T.n2,lkT,_,rfl,p,c.rule,dx,Iy,_,rfl,Vh,T.cl,T.n3,lkK,lt,lk2,_,_,rfl,rfl,ht,hk,sz (by omega),fun l6 Od=>?_⟩
 have s6:=aj Od (.lst (ut++uk))
 refine⟨l6,_,xy 0 L++xy 1 L,rfl,ae,a7 (L2.Paired.d9 pt fun _ _ z=>z.keep (H0:=H0) (Kp.same s6)) (L2.Paired.d9 pk fun _ _ z=>z.keep (H0:=H0) (Kp.same s6)),by rw [aag];omega,SO.heads,SO.WC,fun v7 H7 s7 T7=>?_⟩
 have XE:=ai.trans s6 s7
 have h7p:=XE _ _ Vh
 refine⟨_,rfl,p,c.rule,dx,Iy,rfl,h7p,T.cl,T.n7,XC,?_⟩
 have kp7:Kp H0 H7 (upd H7 p (.ins c.rule dx (bS "names" v7 Iy))):=Kp.upd W8 h7p (QZ _ ⟨_,rfl⟩).1 (QZ _ ⟨_,rfl⟩).2
 have Hy:Kp H0 H6 (upd H7 p (.ins c.rule dx (bS "names" v7 Iy))):=(Kp.same XE).trans kp7
 have Qe:∀n:Str,n≠"names"→(bS "names" v7 Iy).lookup n=Iy.lookup n:=fun n hn=>by rw [a5,if_neg hn]
 refine q _ (bS "names" v7 Iy) ae ⟨?_,⟨_,?_,v1.keep Hy⟩,⟨_,?_,v2.keep Hy⟩,⟨_,?_,v3.keep Hy⟩,⟨_,?_,v4.keep Hy⟩,⟨_,?_,v5.keep Hy⟩,⟨v7,?_,?_⟩,?_⟩ (fun b o e hb=>?_)
 ·rw [Qe _ (by decide +kernel),lk,if_neg (by decide +kernel),if_neg (by decide +kernel),if_neg (by decide +kernel),if_neg (by decide +kernel),if_neg (by decide +kernel),if_pos rfl]
  rfl
 ·rw [Qe _ (by decide +kernel),lkT,et]
 ·rw [Qe _ (by decide +kernel),lkK,ek]
 ·rw [Qe _ (by decide +kernel),lk,if_neg (by decide +kernel),if_neg (by decide +kernel),if_pos rfl]
 ·rw [Qe _ (by decide +kernel),lk,if_neg (by decide +kernel),if_pos rfl]
 ·rw [Qe _ (by decide +kernel),lk,if_pos rfl]
 ·rw [a5,if_pos rfl]
 ·obtain⟨ln,en,nn,hn⟩:=T7
  have S9:H6 ln=none:=s6.free nn
  exact⟨ln,en,KP ln S9,kp7.new _ _ (KP ln S9) hn⟩
 ·rw [Qe _ (by decide +kernel),lk,if_neg (by decide +kernel),if_neg (by decide +kernel),if_neg (by decide +kernel),if_neg (by decide +kernel),if_neg (by decide +kernel),if_neg (by decide +kernel)]
 ·rw [aH hb]
  exact XE _ _ (g6k b o e hb)
theorem xH:aC ["self"] ["self"] (au jN):=⟨rfl,rfl,rfl,by decide +kernel,rfl,by decide +kernel,by decide +kernel⟩
theorem xI (F:dn K "calls" "Rule.calls" jN f fd) (T:z7 K c.rule) (aY:mg "len"=none):a4 P w K mg base dJ 1 f fd ["self"] (z8 K c):=by
 refine F.ok xH (fun vs H Q E h=>?_) (fun cJ A outer s H vs Q E hr h=>?_)
 ·obtain⟨H0,v,r,rfl,_⟩:=h
  rfl
 obtain⟨H0,v,r,rfl,hR,q⟩:=h
 obtain⟨a,dx,fs,rfl,n,h1,RF⟩:=hR
 obtain⟨vt,ev,lt,us,rfl,nt,ht,pt⟩:=RF.taken
 have zl:=aao pt
 refine⟨_,(ak (aG (cZ cg (aK aB rfl aY aaF (aa (pe_fld (pv 0) rfl) ag)) af (aM _)))),?_⟩
 refine⟨_,rfl,a,c.rule,dx,fs,_,rfl,h1,T.cl,T.n2,ev,lt,_,rfl,.inl (aL.of ht),rfl,?_⟩
 have e:decide (V.int (us.length:Int)=V.int 0)=decide (r.take=[]):=by
  rw [decide_eq_decide]
  constructor
  ·intro z
   have z':(us.length:Int)=0:=by injection z
   exact aa2 (by omega)
  ·intro z
   rw [z] at zl
   rw [← zl]
   rfl
 rw [e]
 exact q
theorem AL:aC ["self","kinds","rules"] ["self","kinds","rules"] (au ml):=⟨rfl,rfl,rfl,by decide +kernel,rfl,by decide +kernel,by decide +kernel⟩
theorem AM (F:dn K "__init__" "Book.__init__" ml f fd) (T:Pw K c.book):a4 P w K mg base dJ 1 f fd ["self","kinds","rules"] (uH K c):=by
 refine F.ok AL (fun vs H Q E h=>?_) (fun cJ A outer s H vs Q E hr h=>?_)
 ·obtain⟨p,dx,l,r,rfl,_⟩:=h
  rfl
 obtain⟨p,dx,l,r,rfl,hp,q⟩:=h
 refine⟨_,(ah (ps_fld (pv 0) (pv 1) rfl)
 (ak (ps_fld (pv 0) (pv 2) rfl))),?_⟩
 refine⟨_,rfl,_,rfl,p,c.book,dx,[],rfl,hp,T.cl,T.n1,(by show 0<1000;decide),_,rfl,_,rfl,p,c.book,dx,_,rfl,ae,T.cl,T.n2,(by show 1<1000;decide),?_⟩
 refine q _ _ ae ?_ ?_ fun b o e hb=>?_
 ·rw [a5,if_neg (by decide +kernel),a5,if_pos rfl]
 ·rw [a5,if_pos rfl]
 ·rw [aH hb,aH hb]
  exact e
end
end ft
namespace ft
open PySem L2 cR Bk
set_option maxHeartbeats 4000000
section
variable {P:aaS} {w:abg} {K:aae} {mg:Str→Option aai} {base:Heap} {f:aaB} {fd:aa9} {c:Cl}
theorem aN {α:Type} {l:List α} {i:Nat} {x:α} (h:l[i]?=some x):∃hi:i<l.length,l[i]=x:=aau.mp h
theorem gu:aC ["kinds","rules","line","found","reading","kind"] ["kinds","rules","line"] (au mn):=⟨rfl,rfl,rfl,by decide +kernel,rfl,by decide +kernel,by decide +kernel⟩
theorem AO {u1:aai} (F:dn K "hear_line" "hear_line" mn f fd) (T:z7 K c.rule) (iO:dz P w K mg base "line_pieces" 4 ["line"] JF) (mG:dz P w K mg base "read_rule" 7 ["found"] (JM K c)) (mH:dz P w K mg base "read_kind" 4 ["found"] (JG K))
  (E6:L5 P w K mg base "Rule" c.rule 3 ["self","title","parts"] (uG K c)) (mE:mg "RULE_WORD"=some u1) (mF:RelV (tx dc) u1):a4 P w K mg base dJ 8 f fd ["kinds","rules","line"] (JR K c):=by
 refine F.ok gu (fun vs H Q E h=>?_) (fun cJ A outer s H vs Q E hr h=>?_)
 ·obtain⟨H0,lk,lr,ks,rs,kvs,rK,p,rfl,_⟩:=h
  rfl
 obtain⟨H0,lk,lr,ks,rs,kvs,rK,p,rfl,I,fk1,fr1,hz,hok,alt⟩:=h
 refine⟨_,(ah (ay (i:=3) gu.nd rfl (aaM rfl) (ao iO (hr.mono (by decide)) rfl (aa (pv 2) ag)))
 (ak (aX (aE cg (aq aJ (pv 3) af (fun _ _=>rfl)) (cU rfl mE mF) (aM _))
 (ah (ay (i:=4) gu.nd rfl (aaM rfl) (ao mG (hr.mono (by decide)) rfl (aa (pv 3) ag)))
 (ah (aX (aE rO (aq ar (pv 4) af (fun _ _=>rfl)) (bG [] rfl (by kernel_rfl) (aT (pv 1)) (fun _ _ _ _ _=>bE) (fun _ _ _ _ _=>(zW (K:=K) rfl (pv 0) rfl))) (by with_unfolding_all rfl))
 cj
 aI)
 (ak (bh (bx aaD aaI aaL bg (pv 1) (aa (pS E6 (hr.mono (by decide)) rfl (aa (aq ar (pv 4) af (fun _ _=>rfl)) (aa (aq ar (pv 4) af (fun _ _=>rfl)) ag))) ag))))))
 (ah (ay (i:=5) gu.nd rfl (aaM rfl) (ao mH (hr.mono (by decide)) rfl (aa (pv 3) ag)))
 (ah (aX (aE rO (aq ar (pv 5) af (fun _ _=>rfl)) (bG [] rfl (by kernel_rfl) (aT (pv 0)) (fun _ _ _ _ _=>bE) (fun _ _ _ _ _=>(aq (r:=nA K) ar (pv 0) af (fun _ _=>rfl)))) (by with_unfolding_all rfl))
 cj
 aI)
 (ak (bh (bx aaD aaI aaL bg (pv 0) (aa (pv 5) ag))))))))),?_⟩
 refine⟨_,rfl,p,rfl,hz,hok,fun v H1 s1 T1=>?_⟩
 obtain⟨l,rfl,Hs,hl⟩:=T1
 have W3:(toks p).length≤20000:=abj (CC p) hz
 rcases alt with⟨k,Qf,kok,XF,q⟩|⟨title,L,Qf,R,SO,XG,q⟩
 ·rw [Qf] at hl
  have hl':H1 l=some (.lst [tx (if k.l=true then br else bq),tx k.n,tx [48+k.c]]):=hl
  refine⟨_,rfl,l,_,0,_,rfl,rfl,aL.of hl',rfl,rfl,_,rfl,?_⟩
  have e0:decide (tx (if k.l=true then br else bq)=tx dc)=false:=by cases k.l <;> decide +kernel
  rw [e0]
  refine bo ⟨_,rfl,l,k,rfl,hl,kok.1,kok.2,fun v H2 s2 hK=>?_⟩
  have xj:=ai.trans s1 s2
  obtain⟨t,rfl,ht⟩:=hK
  refine⟨_,rfl,t,_,0,_,rfl,rfl,ht,rfl,_,rfl,lk,rfl,⟨_,aL.of (xj _ _ I.hk)⟩,fun D hD=>?_⟩
  have zl:=aao I.pk
  refine cS (K:=K) (xs:=kvs) (ks.map (·.n)) (fun _ _ b y=>y=tx b) (fun _ _ _ _ _ _ h=>h) (fun _ _ _ _ _ _ h=>h) (iC (by have:=I.fk;omega)) hD (aL.of (xj _ _ I.hk)) (by rw [Lm9];exact zl) (fun i x b H' R hx hb sm hQ=>?_) (fun H3 ys sm hL po=>?_)
  ·obtain⟨hi,ex⟩:=aN hx
   obtain⟨dw,eb⟩:=aN hb
   rw [Lm9] at dw
   rw [aaG] at eb
   obtain⟨tk,Ta,hk⟩:=paired_at I.pk i dw hi
   rw [ex] at Ta
   subst Ta
   refine⟨_,rfl,tk,_,0,_,rfl,rfl,hk.same (ai.trans xj sm),rfl,hQ _ _ (ai.refl _) ?_⟩
   rw [eb]
  ·rw [cq po] at hL
   refine⟨D,_,rfl,.inl (aL.of hL),rfl,gJ _,_,rfl,?_⟩
   rw [jF,decide_eq_false XF]
   refine bo ?_
   have sA:=ai.trans xj sm
   have Ss:=sA _ _ I.hk
   refine⟨_,rfl,.inl ⟨rfl,_,aL.of Ss⟩,_,rfl,lk,_,_,rfl,rfl,Ss,iC (by have:=I.fk;omega),?_⟩
   obtain⟨u0,hu0⟩:=I.ok
   have kp:Kp H0 H3 (upd H3 lk (.lst (kvs++[V.ref t]))):=Kp.upd hu0 Ss (by intro xs z;cases z) (by intro o u z;cases z)
   have Hy:Kp H0 H (upd H3 lk (.lst (kvs++[V.ref t]))):=(Kp.same sA).trans kp
   refine q (.ref t) _ (fun b o hb e=>by rw [aH hb];exact sA _ _ e) ⟨ae,?_,?_,L2.Paired.d9 I.pr fun _ _ z=>z.keep Hy,I.ne,I.ok,I.or,fun b h=>I.vq b (Hy.vq b h),?_,I.fr⟩
   ·exact(L2.Paired.d9 I.pk fun _ _ z=>z.keep Hy).snoc (Kind.keep kp ⟨t,rfl,ht.same sm⟩)
   ·rw [aH (ack I.ne)]
    exact sA _ _ I.hr
   ·rw [aag,abk]
    omega
 ·rw [Qf] at hl W3
  refine⟨_,rfl,l,_,0,tx dc,rfl,rfl,aL.of hl,bz (j:=0) rfl,rfl,_,rfl,?_⟩
  rw [decide_eq_true rfl]
  refine cL ⟨_,rfl,l,title,L,rfl,hl,W3,R,fun t d kd H2 s2 ht hd0 hd pa=>?_⟩
  have xj:=ai.trans s1 s2
  refine⟨_,rfl,t,_,0,_,rfl,rfl,bT.of ht,rfl,_,rfl,lr,rfl,⟨_,aL.of (xj _ _ I.hr)⟩,fun D hD=>?_⟩
  have zl:=aao I.pr
  refine cS (K:=K) (xs:=rK) (rs.map (·.title)) (fun _ _ b y=>y=tx b) (fun _ _ _ _ _ _ h=>h) (fun _ _ _ _ _ _ h=>h) (iC (by have:=I.fr;omega)) hD (aL.of (xj _ _ I.hr)) (by rw [Lm9];exact zl) (fun i x b H' R hx hb sm hQ=>?_) (fun H3 ys sm hL po=>?_)
  ·obtain⟨hi,ex⟩:=aN hx
   obtain⟨dw,eb⟩:=aN hb
   rw [Lm9] at dw
   rw [aaG] at eb
   obtain⟨a,dx,fs,ea,na,ha,RF⟩:=paired_at I.pr i dw hi
   rw [ex] at ea
   subst ea
   refine⟨_,rfl,a,c.rule,dx,fs,_,rfl,(ai.trans xj sm) _ _ ha,T.cl,T.n1,RF.title,hQ _ _ (ai.refl _) ?_⟩
   rw [eb]
  ·rw [cq po] at hL
   refine⟨D,_,rfl,.inl (aL.of hL),rfl,gJ _,_,rfl,?_⟩
   rw [jF,decide_eq_false XG]
   refine bo ?_
   have sA:=ai.trans xj sm
   have Q1:=sA _ _ I.hr
   have Vi:=sm _ _ ht
   have Vd:=sm _ _ hd
   refine⟨_,rfl,.inl ⟨rfl,_,aL.of Q1⟩,_,rfl,t,_,0,_,rfl,rfl,bT.of Vi,rfl,_,rfl,t,_,1,_,rfl,rfl,bT.of Vi,rfl,fun x dx hx SK UU=>?_⟩
   have hxH:H x=none:=sA.free hx
   have hx0:H0 x=none:=I.vq x hxH
   have sM:ai H3 (upd (upd H3 dx (.own x)) x (.ins c.rule dx [])):=ai.trans (aj SK _) (ai.aR (ai.refl _) (by rw [aH (ack UU)];exact hx) _)
   have Vj:dD K c (upd H0 x (.own x)) (upd (upd H3 dx (.own x)) x (.ins c.rule dx [])) L kd:=by
    refine L2.Paired.d9 pa fun y kv z=>⟨z.1,?_⟩
    have z1:=dC.cG (H0:=H0) (fun b h=>I.vq b (s1.free h)) z.2
    exact dC.keep (Kp.same sM) (dC.apart hx (dC.keep (Kp.same sm) z1))
   obtain⟨ur,hur⟩:=I.or
   have nlx:lr≠x:=aP Q1 hx
   refine⟨upd H0 x (.own x),x,dx,d,title,L,kd,_,rfl,ae,ae,fun b h=>?_,sM _ _ Vd,Vj,fun y hy=>(rZ R.inc y hy).2,R.ok,SO,fun H4 fs h4 RF kp4=>⟨rfl,?_⟩⟩
   ·have XH:b≠x:=fun z=>by rw [z,ae] at h;cases h
    rw [aH XH]
    exact I.vq b (ai.free (ai.trans sA sM) h)
   have s4:ai H H4:=fun b o e=>kp4 b o ((ai.trans sA sM) b o e) (aP e hxH)
   have Qg:=s4 _ _ I.hr
   refine⟨lr,_,_,rfl,rfl,Qg,iC (by have:=I.fr;omega),?_⟩
   have kp:Kp H0 H4 (upd H4 lr (.lst (rK++[V.ref x]))):=Kp.upd hur Qg (by intro xs z;cases z) (by intro o u z;cases z)
   have kpX:Kp (upd H0 x (.own x)) H4 (upd H4 lr (.lst (rK++[V.ref x]))):=Kp.upd (by rw [aH nlx];exact hur) Qg (by intro xs z;cases z) (by intro o u z;cases z)
   have Hy:Kp H0 H (upd H4 lr (.lst (rK++[V.ref x]))):=(Kp.same s4).trans kp
   refine q (.ref x) _ (fun b o hb e=>by rw [aH hb];exact s4 _ _ e) ⟨?_,L2.Paired.d9 I.pk fun _ _ z=>z.keep Hy,ae,?_,I.ne,I.ok,I.or,fun b h=>I.vq b (Hy.vq b h),I.fk,?_⟩
   ·rw [aH I.ne]
    exact s4 _ _ I.hk
   ·refine(L2.Paired.d9 I.pr fun _ _ z=>z.keep Hy).snoc ⟨x,dx,fs,rfl,hx0,by rw [aH (ack nlx)];exact h4,?_⟩
    refine pY.cG (fun b h=>?_) (RF.keep kpX)
    have XH:b≠x:=fun z=>by rw [z,ae] at h;cases h
    rw [aH XH] at h
    exact h
   ·rw [aag,abk]
    omega
end
end ft
namespace ft
open PySem L2 cR Bk
set_option maxHeartbeats 4000000
section
variable {P:aaS} {w:abg} {K:aae} {mg:Str→Option aai} {base:Heap} {f:aaB} {fd:aa9} {c:Cl} {C1 C2 C3 C4 C5:aaB} {Cs:Nat→aaB}
theorem gW:aC ["kinds","facts","counts","fact"] ["kinds","facts"] (au iF):=⟨rfl,rfl,rfl,by decide +kernel,rfl,by decide +kernel,by decide +kernel⟩
theorem vX (F:dn K "check_facts" "check_facts" iF f fd) (Qh:mg "dict"=none) (aY:mg "len"=none) (vY:abG K C1 Jk u7=true) (vZ:mg "NoKind"=some (.ref C1)) (sx:abG K C2 Jk u7=true) (sy:mg "BadArgs"=some (.ref C2)) :
  a4 P w K mg base (Ef P w) 1 f fd ["kinds","facts"] (CT K C1 C2):=by
 refine F.QP gW (fun vs H Q E h=>?_) (fun cJ A outer s H vs Q E hr h=>?_)
 ·obtain⟨lk,lf,ks,fs,rfl,_⟩:=h
  rfl
 obtain⟨lk,lf,ks,fs,rfl,⟨⟨kvs,hk,pk⟩,nd,fk,⟨Gi,hf,pf⟩,ED⟩,⟨hE1,hE2⟩,q⟩:=h
 have hu:=FQ hr
 refine⟨_,(ah (ay (i:=2) gW.nd rfl (aaM rfl) (cX (ud rfl) rfl Qh PyProof.Rows.Boot.«dict» (aa (bG [] rfl (by kernel_rfl) (aT (pv 0)) (fun _ _ _ _ _=>bE) (fun _ _ _ _ _=>(bD (aa (aq (r:=nA K) ar (pv 0) af (fun _ _=>rfl)) (aa (aq (r:=nA K) ar (pv 0) af (fun _ _=>rfl)) ag))))) ag)))
 (ak (b8 jb rfl (aT (pv 1)) (bw (i:=3) gW.nd rfl (aaM rfl))
 (ah (aX (Ei (rS hu (aq ar (pv 3) af (fun _ _=>rfl)) (pv 2)))
 (ak (lF vY vZ rfl (aa (uL hr.gd hr.units (pv 3)) ag)))
 aI)
 (ak (aX (aE ib (aK aB rfl aY aaF (aa (aq ar (pv 3) af (fun _ _=>rfl)) ag)) (Ma hu (pv 2) (aq ar (pv 3) af (fun _ _=>rfl)) (fun _ _=>rfl)) (aM _))
 (ak (lF sx sy rfl (aa (uL hr.gd hr.units (pv 3)) ag)))
 aI)))))),?_⟩
 have zl:=aao pk
 have zf:=aao pf
 refine⟨_,rfl,lk,rfl,⟨_,aL.of hk⟩,fun D hD=>?_⟩
 refine cS (K:=K) (xs:=kvs) ks (fun _ H k y=>∃t,y=.ref t∧bT K H t [tx k.n,.int k.c]) (fun _ _ _ _ _ k ⟨t,e,h⟩=>⟨t,e,bT.keep k h⟩) (fun _ _ _ _ _ _ h=>h) (iC (by omega)) hD (aL.of hk) zl (fun i x b H' R hx hb sm hQ=>?_) (fun H1 ys s1 hL po=>?_)
 ·obtain⟨hi,ex⟩:=aN hx
  obtain⟨dw,eb⟩:=aN hb
  obtain⟨t,et,ht⟩:=paired_at pk i dw hi
  rw [ex] at et
  rw [eb] at ht
  subst et
  have ht':=ht.same sm
  exact⟨_,rfl,t,_,0,_,rfl,rfl,ht',rfl,_,rfl,t,_,1,_,rfl,rfl,ht',rfl,(by show 2≤aaj;decide),fun t2 qo=>hQ _ _ (aj qo _) ⟨t2,rfl,bT.of ae⟩⟩
 refine⟨D,ys,ks.map qc,rfl,hL,tu po,(by rw [Lm9];omega),fun d hd=>?_⟩
 rw [qb _ _ (CM nd),abD]
 have s2:ai H (upd H1 d (.dK (ks.map qc))):=ai.trans s1 (aj hd _)
 have QU:=ae (H:=H1) (a:=d) (o:=.dK (ks.map qc))
 generalize upd H1 d (.dK (ks.map qc))=H2 at s2 QU ⊢
 refine⟨_,rfl,lf,rfl,⟨_,aL.of (s2 _ _ hf)⟩,bP (K:=K) (a:=lf) (xs:=Gi) (fun i σ H'=>H'=H2∧fu ks fs=fu ks (fs.drop i)∧∃o,σ=[some (.ref lk),some (.ref lf),some (.ref d),o]) ⟨rfl,rfl,none,rfl⟩ (fun i σ H' _ ⟨e,_⟩=>by rw [e];exact aL.of (s2 _ _ hf)) ?_ ?_⟩
 ·rintro i y σ H' hi ⟨rfl,mI,o,rfl⟩
  obtain⟨sv,ey⟩:=aN hi
  have nq:i<fs.length:=by omega
  have hFa:=paired_at pf i nq sv
  rw [ey] at hFa
  have Hz:=Fact.WE (Fact.sm s2 hFa)
  obtain⟨t,t2,et,h1,h2⟩:=hFa
  subst et
  have h1':=h1.same s2
  have h2':=h2.same s2
  have hS:=FS.shown (ED _ (aap nq))
  rw [tF nq] at mI
  refine⟨_,rfl,t,_,0,_,rfl,rfl,h1',rfl,_,rfl,d,_,rfl,jC.k (k:=(aa3 (S fs[i].k):Key)) QU,_,rfl,?_⟩
  have KQ:=PD ks fs[i].k
  cases Tb:ks.find? (fun k=>decide (k.n=fs[i].k)) with
  | none =>
   rw [Tb] at KQ
   rw [KQ]
   have AI:fault ks fs[i]=1:=by unfold fault;rw [Tb]
   refine cL ⟨_,rfl,[.str (S fs[i].k),.tup ((fs[i].as.map S).map .str)],Hz,?_,hS.1,hS.2,fun x=>⟨(by show 1≤aaj;decide),hE1 ?_ _ s2⟩⟩
   ·show(fT fs[i]).toD.deep≤18
    unfold fT
    rw [m8]
    decide
   ·rw [mI,AI]
    rfl
  | some k =>
   rw [Tb] at KQ
   rw [KQ]
   refine bo ?_
   refine⟨_,rfl,t,_,1,_,rfl,rfl,h1',rfl,t2,_,rfl,.inr h2',_,rfl,_,rfl,t,_,0,_,rfl,rfl,h1',rfl,d,_,rfl,(by have z:=jC.k (k:=(aa3 (S fs[i].k):Key)) QU;rw [KQ] at z;exact z),rfl,_,rfl,?_⟩
   rw [Lm9]
   by_cases hc:k.c=fs[i].as.length
   ·have AI:fault ks fs[i]=0:=by unfold fault;rw [Tb];exact if_pos hc
    rw [decide_eq_true (show V.int (fs[i].as.length:Nat)=V.int (k.c:Nat) by rw [hc])]
    refine bo ⟨rfl,?_,_,rfl⟩
    rw [mI,AI]
    rfl
   ·have AI:fault ks fs[i]=2:=by unfold fault;rw [Tb];exact if_neg hc
    rw [decide_eq_false (fun z:V.int (fs[i].as.length:Nat)=V.int (k.c:Nat)=>hc (by have:=V.int.inj z;omega))]
    refine cL ⟨_,rfl,[.str (S fs[i].k),.tup ((fs[i].as.map S).map .str)],Hz,?_,hS.1,hS.2,fun x=>⟨(by show 1≤aaj;decide),hE2 ?_ _ s2⟩⟩
    ·show(fT fs[i]).toD.deep≤18
     unfold fT
     rw [m8]
     decide
    ·rw [mI,AI]
     rfl
 ·rintro σ H' ⟨rfl,mI,o,rfl⟩
  rw [acj (by omega)] at mI
  exact q mI _ s2
theorem mJ:aC ["lasts","taken","fact"] ["lasts","taken"] (au iG):=⟨rfl,rfl,rfl,by decide +kernel,rfl,by decide +kernel,by decide +kernel⟩
theorem v8 (F:dn K "check_taken" "check_taken" iG f fd) (sJ:abG K C3 Jk u7=true) (sL:mg "BadTake"=some (.ref C3)):a4 P w K mg base (Ef P w) 1 f fd ["lasts","taken"] (y3 K C3):=by
 refine F.QP mJ (fun vs H Q E h=>?_) (fun cJ A outer s H vs Q E hr h=>?_)
 ·obtain⟨ll,lf,ls,fs,rfl,_⟩:=h
  rfl
 obtain⟨ll,lf,ls,fs,rfl,hl,⟨Gi,hf,pf⟩,ED,FL,q⟩:=h
 refine⟨_,(ak (b8 jb rfl (aT (pv 1)) (bw (i:=2) mJ.nd rfl (aaM rfl))
 (ak (aX (aE rO (aq ar (pv 2) af (fun _ _=>rfl)) (pv 0) (by with_unfolding_all rfl))
 (ak (lF sJ sL rfl (aa (uL hr.gd hr.units (pv 2)) ag)))
 aI)))),?_⟩
 have zf:=aao pf
 refine⟨_,rfl,lf,rfl,⟨_,aL.of hf⟩,bP (K:=K) (a:=lf) (xs:=Gi) (fun i σ H'=>H'=H∧(fs.take i).any (fun f=>decide (f.k∈ls))=false∧∃o,σ=[some (.ref ll),some (.ref lf),o]) ⟨rfl,by simp,none,rfl⟩ (fun i σ H' _ ⟨e,_⟩=>by rw [e];exact aL.of hf) ?_ ?_⟩
 ·rintro i y σ H' hi ⟨rfl,ha,o,rfl⟩
  obtain⟨sv,ey⟩:=aN hi
  have nq:i<fs.length:=by omega
  have hFa:=paired_at pf i nq sv
  rw [ey] at hFa
  have Hz:=Fact.WE hFa
  obtain⟨t,t2,et,h1,h2⟩:=hFa
  subst et
  have hS:=FS.shown (ED _ (aap nq))
  refine⟨_,rfl,t,_,0,_,rfl,rfl,h1,rfl,_,rfl,ll,_,rfl,.inl (aL.of hl),rfl,gJ _,_,rfl,?_⟩
  rw [jF]
  cases hk:decide (fs[i].k∈ls) with
  | true =>
   refine cL ⟨_,rfl,[.str (S fs[i].k),.tup ((fs[i].as.map S).map .str)],Hz,?_,hS.1,hS.2,fun x=>⟨(by show 1≤aaj;decide),FL ?_ _ (ai.refl _)⟩⟩
   ·show(fT fs[i]).toD.deep≤18
    unfold fT
    rw [m8]
    decide
   ·exact abA.mpr ⟨_,aap nq,hk⟩
  | false =>
   refine bo ⟨rfl,?_,_,rfl⟩
   rw [aak nq,ab8,ha]
   simp [hk]
 ·rintro σ H' ⟨rfl,ha,o,rfl⟩
  rw [← zf,aa1] at ha
  exact q ha
theorem eG:aC ["rule","said","look","fact","pair"] ["rule"] (au jR):=⟨rfl,rfl,rfl,by decide +kernel,rfl,by decide +kernel,by decide +kernel⟩
theorem xJ (F:dn K "said_names" "said_names" jR f fd) (T:z7 K c.rule) (Ts:xw K c.same) (Tu:xw K c.unlike):a4 P w K mg base dJ 1 f fd ["rule"] (JS K c):=by
 refine F.ok eG (fun vs H Q E h=>?_) (fun cJ A outer s H vs Q E hr h=>?_)
 ·obtain⟨H0,v,r,rfl,_⟩:=h
  rfl
 obtain⟨H0,v,r,rfl,hR,hz,q⟩:=h
 refine⟨_,(ah (ay (i:=1) eG.nd rfl (aaM rfl) (aV ag))
 (ah (b8 aa0 rfl (aT (pe_fld (pv 0) rfl)) (bw (i:=2) eG.nd rfl (aaM rfl))
 (ak (bh (bx aaD abW acF G2 (pv 1) (aa (aV (aa (pe_fld (pv 2) rfl) (aa (pe_fld (pv 2) rfl) ag))) ag)))))
 (ah (b8 aa0 rfl (aT (pe_fld (pv 0) rfl)) (bw (i:=3) eG.nd rfl (aaM rfl))
 (ak (bh (bx aaD abW acF vc (pv 1) (aa (aq ar (pv 3) af (fun _ _=>rfl)) ag)))))
 (ah (b8 aa0 rfl (aT (pe_fld (pv 0) rfl)) (bw (i:=4) eG.nd rfl (aaM rfl))
 (ak (bh (bx aaD abW acF vc (pv 1) (aa (pv 4) ag)))))
 (ak (aG (pv 1))))))),?_⟩
 obtain⟨a,dx,fs,rfl,na,ha,RF⟩:=id hR
 obtain⟨vl,el,ll,ul,rfl,nl,hl,pl⟩:=RF.aO
 obtain⟨vg,eg,lg,ug,rfl,ng,hg,pg⟩:=RF.given
 obtain⟨vt,et,lt,ut,rfl,nt,ht,pt⟩:=RF.told
 have hz':=hz
 unfold de at hz'
 rw [aag,aag] at hz'
 refine⟨(by show 0≤aaj;decide),fun ls HD=>?_⟩
 have s0:=aj HD (.lst [])
 have zl:=aao pl
 have zg:=aao pg
 have zt:=aao pt
 have v9:∀b,Ec K (c.look b)∧da K (c.look b) "left"∧da K (c.look b) "right":=fun b=>by
  cases b with
  | true=>exact⟨Ts.cl,Ts.nL,Ts.nR⟩
  | false=>exact⟨Tu.cl,Tu.nL,Tu.nR⟩
 refine⟨_,rfl,a,c.rule,dx,fs,_,rfl,s0 _ _ ha,T.cl,T.n4,el,ll,rfl,⟨_,aL.of (s0 _ _ hl)⟩,bP (K:=K) (a:=ll) (xs:=ul) (fun i σ H'=>ai H H'∧H' ls=some (.lst (((r.aO.take i).flatMap fun k=>[k.l,k.r]).map tx))∧((r.aO.take i).flatMap fun k=>[k.l,k.r]).length≤(r.aO.flatMap fun k=>[k.l,k.r]).length∧∃o2 o3 o4,σ=[some (.ref a),some (.ref ls),o2,o3,o4])
  ⟨s0,ae,abt _,none,none,none,rfl⟩ (fun i σ H' _ ⟨sm,_⟩=>aL.of (sm _ _ hl)) ?_ ?_⟩
 ·rintro i y σ H' hi ⟨sm,hs,hlen,o2,o3,o4,rfl⟩
  obtain⟨xi,ey⟩:=aN hi
  have E4:i<r.aO.length:=by omega
  obtain⟨b,Q2,fb,eb,nb,hb,f1,f2,f3,f4⟩:=paired_at pl i E4 xi
  rw [ey] at eb
  subst eb
  obtain⟨C1,C2,C3⟩:=v9 r.aO[i].same
  have hb':=sm _ _ hb
  refine⟨_,rfl,.inl ⟨rfl,_,aL.of hs⟩,_,rfl,b,_,Q2,fb,_,rfl,hb',C1,C2,f1,_,rfl,b,_,Q2,fb,_,rfl,hb',C1,C3,f2,(by show 2≤aaj;decide),fun l2 i8=>?_⟩
  have n2:ls≠l2:=aP hs i8
  have NF:upd H' l2 (.lst [tx r.aO[i].l,tx r.aO[i].r]) ls=some (.lst (((r.aO.take i).flatMap fun k=>[k.l,k.r]).map tx)):=by rw [aH n2];exact hs
  have KC:H l2=none:=sm.free i8
  have e1:(r.aO.take (i+1)).flatMap (fun k=>[k.l,k.r])=(r.aO.take i).flatMap (fun k=>[k.l,k.r])++[r.aO[i].l,r.aO[i].r]:=by
   rw [aak E4,abq]
   simp
  have e2:=r9 (fun k:Lk=>[k.l,k.r]) r.aO (i+1)
  refine⟨ls,l2,_,_,rfl,rfl,NF,ae,(by rw [Lm9];exact sz (by simp only [aar,abb];omega)),ai.aR (ai.aR sm KC _) HD _,?_,e2,_,_,_,rfl⟩
  rw [ae,e1,aat]
  rfl
 rintro σ H1 ⟨s1,Qi,-,o2,o3,o4,rfl⟩
 have zul:ul.length=r.aO.length:=zl.symm
 rw [zul,aa1] at Qi
 generalize hA:(r.aO.flatMap fun k=>[k.l,k.r])=LA at Qi hz'
 refine⟨_,rfl,a,c.rule,dx,fs,_,rfl,s1 _ _ ha,T.cl,T.n5,eg,lg,rfl,⟨_,aL.of (s1 _ _ hg)⟩,bP (K:=K) (a:=lg) (xs:=ug) (fun i σ H'=>ai H H'∧H' ls=some (.lst ((LA++((r.put.take i).flatMap (·.as))).map tx))∧∃o2 o3 o4,σ=[some (.ref a),some (.ref ls),o2,o3,o4])
  ⟨s1,by rw [acx,List.flatMap_nil,aaZ];exact Qi,_,_,_,rfl⟩ (fun i σ H' _ ⟨sm,_⟩=>aL.of (sm _ _ hg)) ?_ ?_⟩
 ·rintro i y σ H' hi ⟨sm,hs,o2,o3,o4,rfl⟩
  obtain⟨xi,ey⟩:=aN hi
  have E4:i<r.put.length:=by omega
  obtain⟨t,t2,e3,h1,h2⟩:=paired_at pg i E4 xi
  rw [ey] at e3
  subst e3
  have e1:(r.put.take (i+1)).flatMap (·.as)=(r.put.take i).flatMap (·.as)++r.put[i].as:=by
   rw [aak E4,abq]
   simp
  have e2:=r9 (fun f:Fc=>f.as) r.put (i+1)
  rw [e1,aag] at e2
  refine⟨_,rfl,.inl ⟨rfl,_,aL.of hs⟩,_,rfl,t,_,1,_,rfl,rfl,h1.same sm,rfl,ls,t2,_,_,rfl,rfl,hs,h2.same sm,(by rw [Lm9,Lm9,aag];exact sz (by omega)),ai.aR sm HD _,?_,_,_,_,rfl⟩
  rw [ae,e1,← aaT,aat (l₁:=LA++_)]
 rintro σ H2 ⟨s2,NF,o2,o3,o4,rfl⟩
 have zug:ug.length=r.put.length:=zg.symm
 rw [zug,aa1] at NF
 generalize hB:r.put.flatMap (·.as)=LB at NF hz'
 refine⟨_,rfl,a,c.rule,dx,fs,_,rfl,s2 _ _ ha,T.cl,T.n6,et,lt,rfl,⟨_,aL.of (s2 _ _ ht)⟩,bP (K:=K) (a:=lt) (xs:=ut) (fun i σ H'=>ai H H'∧H' ls=some (.lst ((LA++(LB++((r.tell.take i).flatMap fun p=>[p.1,p.2]))).map tx))∧∃o2 o3 o4,σ=[some (.ref a),some (.ref ls),o2,o3,o4])
  ⟨s2,by rw [acx,List.flatMap_nil,aaZ];exact NF,_,_,_,rfl⟩ (fun i σ H' _ ⟨sm,_⟩=>aL.of (sm _ _ ht)) ?_ ?_⟩
 ·rintro i y σ H' hi ⟨sm,hs,o2,o3,o4,rfl⟩
  obtain⟨xi,ey⟩:=aN hi
  have E4:i<r.tell.length:=by omega
  obtain⟨t,e3,h1⟩:=paired_at pt i E4 xi
  rw [ey] at e3
  subst e3
  have e1:(r.tell.take (i+1)).flatMap (fun p=>[p.1,p.2])=(r.tell.take i).flatMap (fun p=>[p.1,p.2])++[r.tell[i].1,r.tell[i].2]:=by
   rw [aak E4,abq]
   simp
  have e2:=r9 (fun p:Cs × Cs=>[p.1,p.2]) r.tell (i+1)
  rw [e1,aag] at e2
  refine⟨_,rfl,.inl ⟨rfl,_,aL.of hs⟩,_,rfl,ls,t,_,_,rfl,rfl,hs,h1.same sm,(by rw [Lm9,aag,aag];exact sz (by simp only [aar,abb] at e2 ⊢;omega)),ai.aR sm HD _,?_,_,_,_,rfl⟩
  rw [ae,e1,← aaT,← aaT,← aaT,aat (l₁:=LA++LB++_)]
  rfl
 rintro σ H3 ⟨s3,hs3,o2,o3,o4,rfl⟩
 have zut:ut.length=r.tell.length:=zt.symm
 rw [zut,aa1] at hs3
 refine⟨_,rfl,q _ _ s3 ⟨ls,rfl,HD,?_⟩⟩
 unfold de
 rw [hA,hB]
 exact hs3
end
end ft
namespace ft
open PySem L2 cR Bk
set_option maxHeartbeats 4000000
section
variable {P:aaS} {w:abg} {K:aae} {mg:Str→Option aai} {base:Heap} {f:aaB} {fd:aa9} {c:Cl} {C1 C2 C3 C4 C5:aaB} {Cs:Nat→aaB}
theorem nT:aC ["lasts","rule","fact"] ["lasts","rule"] (au jQ):=⟨rfl,rfl,rfl,by decide +kernel,rfl,by decide +kernel,by decide +kernel⟩
theorem xK (F:dn K "check_call" "check_call" jQ f fd) (T:z7 K c.rule) (sN:Met P w K mg base c.rule "calls" 1 ["self"] (z8 K c)) (sO:abG K C4 Jk u7=true) (sP:mg "BadCall"=some (.ref C4)):a4 P w K mg base (Ef P w) 2 f fd ["lasts","rule"] (zi K c C4):=by
 refine F.QP nT (fun vs H Q E h=>?_) (fun cJ A outer s H vs Q E hr h=>?_)
 ·obtain⟨H0,ll,v,ks,r,rfl,_⟩:=h
  rfl
 obtain⟨H0,ll,v,ks,r,rfl,hl,hR,ED,hE,q⟩:=h
 refine⟨_,(ah (aX (jv (cW (G7 (pv 1) sN (hr.mono (by decide)))))
 (ak LG)
 aI)
 (ak (b8 jb rfl (aT (pe_fld (pv 1) rfl)) (bw (i:=2) nT.nd rfl (aaM rfl))
 (ak (aX (aE dB (aq ar (pv 2) af (fun _ _=>rfl)) (pv 0) (by with_unfolding_all rfl))
 (ak (lF sO sP rfl (aa (uL hr.gd hr.units (pv 2)) ag)))
 aI))))),?_⟩
 obtain⟨a,dx,fs,rfl,na,ha,RF⟩:=id hR
 refine⟨_,rfl,a,dx,fs,rfl,ha,RF.calls,H0,_,r,rfl,hR,_,rfl,?_⟩
 by_cases e:r.take=[]
 ·rw [decide_eq_true e]
  refine bo ?_
  obtain⟨vg,ev,lg,us,rfl,ng,hg,pg⟩:=RF.given
  have zg:=aao pg
  refine⟨_,rfl,a,c.rule,dx,fs,_,rfl,ha,T.cl,T.n5,ev,lg,rfl,⟨_,aL.of hg⟩,bP (K:=K) (a:=lg) (xs:=us) (fun i σ H'=>H'=H∧(r.put.take i).any (fun f=>!qh ks f)=false∧∃o,σ=[some (.ref ll),some (.ref a),o]) ⟨rfl,by simp,none,rfl⟩ (fun i σ H' _ ⟨e,_⟩=>by rw [e];exact aL.of hg) ?_ ?_⟩
  ·rintro i y σ H' hi ⟨rfl,xM,o,rfl⟩
   obtain⟨sv,ey⟩:=aN hi
   have nq:i<r.put.length:=by omega
   have hFa:=paired_at pg i nq sv
   rw [ey] at hFa
   have Hz:=Fact.WE hFa
   obtain⟨t,t2,et,h1,h2⟩:=hFa
   subst et
   have hS:=FS.shown (ED _ (aap nq))
   refine⟨_,rfl,t,_,0,_,rfl,rfl,h1,rfl,_,rfl,ll,_,rfl,.inl (aL.of hl),rfl,gJ _,_,rfl,?_⟩
   rw [jF]
   cases hk:qh ks r.put[i] with
   | false =>
    have hk':decide (r.put[i].k∈fU ks)=false:=hk
    rw [hk']
    refine cL ⟨_,rfl,[.str (S r.put[i].k),.tup ((r.put[i].as.map S).map .str)],Hz,?_,hS.1,hS.2,fun x=>⟨(by show 1≤aaj;decide),hE ⟨e,?_⟩ _ (ai.refl _)⟩⟩
    ·show(fT r.put[i]).toD.deep≤18
     unfold fT
     rw [m8]
     decide
    ·exact abA.mpr ⟨_,aap nq,by rw [hk];rfl⟩
   | true =>
    have hk':decide (r.put[i].k∈fU ks)=true:=hk
    rw [hk']
    refine bo ⟨rfl,?_,_,rfl⟩
    rw [aak nq,ab8,xM]
    simp [hk]
  ·rintro σ H' ⟨rfl,xM,o,rfl⟩
   rw [← zg,aa1] at xM
   exact q fun z=>by rw [z.2] at xM;cases xM
 ·rw [decide_eq_false e]
  exact cL (q fun z=>e z.1)
theorem mK:aC ["rule","name"] ["rule"] (au iJ):=⟨rfl,rfl,rfl,by decide +kernel,rfl,by decide +kernel,by decide +kernel⟩
theorem wa (F:dn K "check_names" "check_names" iJ f fd) (T:z7 K c.rule) (j9:dz P w K mg base "said_names" 1 ["rule"] (JS K c)) (fE:dz P w K mg base "is_great" 1 ["name"] z0) (wb:abG K C5 Jk u7=true) (wc:mg "NoName"=some (.ref C5)):a4 P w K mg base (Ef P w) 2 f fd ["rule"] (zj K c C5):=by
 refine F.QP mK (fun vs H Q E h=>?_) (fun cJ A outer s H vs Q E hr h=>?_)
 ·obtain⟨H0,v,r,rfl,_⟩:=h
  rfl
 obtain⟨H0,v,r,rfl,hR,hT,hE,q⟩:=h
 obtain⟨nD,hz⟩:=hT.WU
 refine⟨_,(ak (b8 jb rfl (aT (ao j9 (hr.mono (by decide)) rfl (aa (pv 0) ag))) (bw (i:=1) mK.nd rfl (aaM rfl))
 (ak (aX (PW.pt (lB (cW (ao fE (hr.mono (by decide)) rfl (aa (pv 1) ag))) (hV (aE dB (pv 1) (pe_fld (pv 0) rfl) (by with_unfolding_all rfl)))))
 (ak (lF wb wc rfl (aa (Ka (pv 1)) ag)))
 aI)))),?_⟩
 refine⟨_,rfl,H0,v,r,rfl,hR,(by omega),fun u H1 s1 T1=>?_⟩
 obtain⟨l,rfl,Hs,hl⟩:=T1
 obtain⟨a,dx,fs,rfl,na,ha,RF⟩:=id hR
 obtain⟨vn,en,ln,rfl,nn,hn⟩:=RF.names
 refine⟨l,rfl,⟨_,aL.of hl⟩,bP (K:=K) (a:=l) (xs:=(de r).map tx) (fun i σ H'=>H'=H1∧((de r).take i).any (fun a=>great a && !decide (a∈opens (r.take++r.keep)))=false∧∃o,σ=[some (.ref a),o]) ⟨rfl,by simp,none,rfl⟩ (fun i σ H' _ ⟨e,_⟩=>by rw [e];exact aL.of hl) ?_ ?_⟩
 ·rintro i y σ H' hi ⟨rfl,xM,o,rfl⟩
  obtain⟨xi,ey⟩:=aN hi
  rw [Lm9] at xi
  rw [aaG] at ey
  subst ey
  have hmem:(de r)[i]∈de r:=aap xi
  have hlen:=eO (nD _ hmem)
  have next:(great (de r)[i] && !decide ((de r)[i]∈opens (r.take++r.keep)))=false→((de r).take (i+1)).any (fun a=>great a && !decide (a∈opens (r.take++r.keep)))=false:=fun z=>by
   rw [aak xi,ab8,xM,abU,z]
   rfl
  refine⟨_,rfl,(de r)[i],rfl,(fun z=>by rw [z] at hlen;simp at hlen),by omega,_,rfl,?_⟩
  refine eV (fun g=>?_) (fun g=>bo ⟨rfl,next (by rw [adX _ |>.mp g];rfl),_,rfl⟩)
  refine⟨_,rfl,_,rfl,a,c.rule,dx,fs,_,rfl,s1 _ _ ha,T.cl,T.n7,en,ln,_,rfl,.inl (aL.of (s1 _ _ hn)),rfl,gJ _,_,rfl,?_⟩
  rw [jF]
  cases hk:decide ((de r)[i]∈opens (r.take++r.keep)) with
  | true=>exact bo ⟨rfl,next (by rw [hk,g];rfl),_,rfl⟩
  | false =>
   have hc:=lQ (nD _ hmem)
   refine cL ⟨_,rfl,S (de r)[i],rfl,(by rw [aS];omega),(by rw [bH];exact hc.2.2),fun x=>⟨(by show 1≤aaj;decide),?_⟩⟩
   exact hE (abA.mpr ⟨_,hmem,by rw [hk,g];rfl⟩) _ s1
 ·rintro σ H' ⟨rfl,xM,o,rfl⟩
  rw [Lm9,aa1] at xM
  exact q xM _ s1
end
end ft
namespace ft
open PySem L2 cR Bk
set_option maxHeartbeats 4000000
section
variable {P:aaS} {w:abg} {K:aae} {mg:Str→Option aai} {base:Heap} {f:aaB} {fd:aa9} {c:Cl} {Cs:Nat→aaB}
theorem iP:aC ["kinds","rules","lasts","rule"] ["kinds","rules"] (au jP):=⟨rfl,rfl,rfl,by decide +kernel,rfl,by decide +kernel,by decide +kernel⟩
theorem xN (F:dn K "whole_book" "whole_book" jP f fd) (T:z7 K c.rule) (iQ:Ac P w K mg base "check_facts" 1 ["kinds","facts"] (CT K (Cs 1) (Cs 2))) (iR:Ac P w K mg base "check_taken" 1 ["lasts","taken"] (y3 K (Cs 3))) (ka:Ac P w K mg base "check_call" 2 ["lasts","rule"] (zi K c (Cs 4)))
  (iS:Ac P w K mg base "check_names" 2 ["rule"] (zj K c (Cs 5))) (E7:L5 P w K mg base "Book" c.book 1 ["self","kinds","rules"] (uH K c)):a4 P w K mg base (Ef P w) 3 f fd ["kinds","rules"] (Dk K c Cs):=by
 refine F.QP iP (fun vs H Q E h=>?_) (fun cJ A outer s H vs Q E hr h=>?_)
 ·obtain⟨H0,lk,lr,ks,rs,kvs,rK,rfl,_⟩:=h
  rfl
 obtain⟨H0,lk,lr,ks,rs,kvs,rK,rfl,I,nd,LP,Vk,q⟩:=h
 refine⟨_,(ah (ie (i:=2) [] iP.nd rfl (aaM rfl) rfl (by kernel_rfl) (aT (pv 0)) (fun _ _ _ _ _=>(jB (cW (aq (r:=nA K) ar (pv 0) af (fun _ _=>rfl))))) (fun _ _ _ _ _=>(aq (r:=nA K) ar (pv 0) af (fun _ _=>rfl))))
 (ah (b8 jb rfl (aT (pv 1)) (bw (i:=3) iP.nd rfl (aaM rfl))
 (ah (bh (lP iQ (hr.mono (by decide)) rfl (aa (pv 0) (aa (aw cF (aw cF (pe_fld (pv 3) rfl) (pe_fld (pv 3) rfl)) (pe_fld (pv 3) rfl)) ag))))
 (ah (bh (lP iR (hr.mono (by decide)) rfl (aa (pv 2) (aa (pe_fld (pv 3) rfl) ag))))
 (ah (bh (lP ka (hr.mono (by decide)) rfl (aa (pv 2) (aa (pv 3) ag))))
 (ak (bh (lP iS (hr.mono (by decide)) rfl (aa (pv 3) ag))))))))
 (ak (aG (pS E7 (hr.mono (by decide)) rfl (aa (pv 0) (aa (pv 1) ag))))))),?_⟩
 have zk:=aao I.pk
 have zr:=aao I.pr
 refine⟨_,rfl,lk,rfl,⟨_,aL.of I.hk⟩,fun D hD=>?_⟩
 refine gF (K:=K) (xs:=kvs) ks (·.l) (·.n) (fun _ _ b y=>y=tx b) (fun _ _ _ _ _ _ h=>h) (fun _ _ _ _ _ _ h=>h) (iC (by have:=I.fk;omega)) hD (aL.of I.hk) zk (fun i x b H' R hx hb sm hQ=>?_) (fun i x b H' R hx hb hk sm hQ=>?_) (fun H1 ys s1 hL po=>?_)
 ·obtain⟨hi,ex⟩:=aN hx
  obtain⟨dw,eb⟩:=aN hb
  obtain⟨t,et,ht⟩:=paired_at I.pk i dw hi
  rw [ex] at et
  rw [eb] at ht
  subst et
  exact⟨_,rfl,t,_,2,_,rfl,rfl,ht.same sm,rfl,_,rfl,hQ _ (ai.refl _)⟩
 ·obtain⟨hi,ex⟩:=aN hx
  obtain⟨dw,eb⟩:=aN hb
  obtain⟨t,et,ht⟩:=paired_at I.pk i dw hi
  rw [ex] at et
  rw [eb] at ht
  subst et
  exact⟨_,rfl,t,_,0,_,rfl,rfl,ht.same sm,rfl,hQ _ _ (ai.refl _) rfl⟩
 rw [cq po] at hL
 refine⟨_,rfl,lr,rfl,⟨_,aL.of (s1 _ _ I.hr)⟩,bP (K:=K) (a:=lr) (xs:=rK) (fun i σ H'=>ai H1 H'∧ba ks rs=ba ks (rs.drop i)∧∃o,σ=[some (.ref lk),some (.ref lr),some (.ref D),o]) ⟨ai.refl _,rfl,none,rfl⟩ (fun i σ H' _ ⟨sm,_⟩=>aL.of (sm _ _ (s1 _ _ I.hr))) ?_ ?_⟩
 ·rintro i y σ H' hi ⟨sm,hJ,o,rfl⟩
  obtain⟨xi,ey⟩:=aN hi
  have Qj:i<rs.length:=by omega
  have sA:=ai.trans s1 sm
  have XI:=paired_at I.pr i Qj xi
  rw [ey] at XI
  have hT:=LP _ (aap Qj)
  rw [Dj Qj] at hJ
  have we:judge ks rs[i]≠0→Refs Cs (judge ks rs[i]) H E:=fun z=>by rw [hJ,if_neg z] at Vk;exact Vk
  generalize rs[i]=r at XI hT hJ we
  have hR:=XI.keep (Kp.same sA)
  obtain⟨a,dx,fs,rfl,na,ha,RF⟩:=id hR
  obtain⟨vt,ev,lt,ut,rfl,nt,ht,pt⟩:=RF.taken
  obtain⟨vk,ek,lp,uk,rfl,nk,hk,pk⟩:=RF.kept
  obtain⟨vg,eg,lg,ug,rfl,ng,hg,pg⟩:=RF.given
  have zt:=aao pt
  have zk2:=aao pk
  have zg:=aao pg
  have hfew:=hT.few
  have XJ:∀f∈r.take++r.keep++r.put,FS f:=fun f hf=>(hT.facts f hf).fs
  refine⟨_,rfl,_,rfl,a,c.rule,dx,fs,_,rfl,ha,T.cl,T.n2,ev,_,rfl,a,c.rule,dx,fs,_,rfl,ha,T.cl,T.n3,ek,lt,lp,_,_,rfl,rfl,ht,hk,sz (by omega),fun p1 Vl=>?_⟩
  have XM:=aj Vl (.lst (ut++uk))
  refine⟨_,rfl,a,c.rule,dx,fs,_,rfl,XM _ _ ha,T.cl,T.n5,eg,p1,lg,_,_,rfl,rfl,ae,XM _ _ hg,sz (by rw [aag];omega),fun p2 EF=>?_⟩
  have Tc:=ai.trans XM (aj EF (.lst ((ut++uk)++ug)))
  have sB:=ai.trans sA Tc
  refine⟨lk,p2,ks,r.take++r.keep++r.put,rfl,⟨⟨kvs,sB _ _ I.hk,L2.Paired.d9 I.pk fun _ _ z=>z.keep (H0:=H0) (Kp.same sB)⟩,nd,I.fk,⟨_,ae,?_⟩,XJ⟩,⟨fun h1 H3 s3=>?_,fun h1 H3 s3=>?_⟩,fun h0 H2 s2=>?_⟩
  ·exact a7 (a7 (L2.Paired.d9 pt fun _ _ z=>z.keep (H0:=H0) (Kp.same Tc)) (L2.Paired.d9 pk fun _ _ z=>z.keep (H0:=H0) (Kp.same Tc))) (L2.Paired.d9 pg fun _ _ z=>z.keep (H0:=H0) (Kp.same Tc))
  ·have e:judge ks r=1:=by unfold judge;rw [if_pos (by omega),h1]
   rw [e] at we
   exact we (by decide) (by decide) H3 (ai.trans sB s3)
  ·have e:judge ks r=2:=by unfold judge;rw [if_pos (by omega),h1]
   rw [e] at we
   exact we (by decide) (by decide) H3 (ai.trans sB s3)
  have e1:judge ks r=if r.take.any (qh ks)=true then 3 else if iu ks r then 4 else if jI r=true then 5 else 0:=by unfold judge;rw [if_neg (by omega)]
  have sC:=ai.trans Tc s2
  have XN:=ai.trans sA sC
  have hR2:=hR.keep (Kp.same sC)
  have kO:=sC _ _ (sm _ _ hL)
  refine⟨_,rfl,_,rfl,a,c.rule,dx,fs,_,rfl,sC _ _ ha,T.cl,T.n2,ev,D,lt,fU ks,r.take,rfl,kO,⟨_,sC _ _ ht,L2.Paired.d9 pt fun _ _ z=>z.keep (H0:=H0) (Kp.same sC)⟩,(fun f hf=>XJ f (aas _ (aas _ hf))),fun h3 H3 s3=>?_,fun h3=>?_⟩
  ·have e:judge ks r=3:=by rw [e1];exact if_pos h3
   rw [e] at we
   exact we (by decide) (by decide) H3 (ai.trans XN s3)
  have h3:r.take.any (qh ks)=false:=h3
  rw [h3,if_neg (by decide)] at e1
  refine⟨_,rfl,_,rfl,H0,D,_,ks,r,rfl,kO,hR2,(fun f hf=>XJ f (aah _ hf)),fun h4 H3 s3=>?_,fun h4=>?_⟩
  ·have e:judge ks r=4:=by rw [e1];exact if_pos h4
   rw [e] at we
   exact we (by decide) (by decide) H3 (ai.trans XN s3)
  rw [if_neg h4] at e1
  refine⟨_,rfl,H0,_,r,rfl,hR2,hT,fun h5 H3 s3=>?_,fun h5 H3 s3=>⟨ai.trans sm (ai.trans sC s3),?_,_,rfl⟩⟩
  ·have e:judge ks r=5:=by rw [e1];exact if_pos h5
   rw [e] at we
   exact we (by decide) (by decide) H3 (ai.trans XN s3)
  ·rw [h5,if_neg (by decide)] at e1
   rw [hJ,if_pos e1]
 ·rintro σ H' ⟨sm,hJ,o,rfl⟩
  rw [acj (by omega)] at hJ
  have sA:=ai.trans s1 sm
  refine⟨_,rfl,_,rfl,fun x dx hx SK UU=>?_⟩
  refine⟨x,dx,_,_,rfl,ae,fun H2 fs h1 h2 h3 kp=>⟨rfl,q hJ x dx fs H2 (fun b o e=>kp b o ?_ (aP (sA _ _ e) hx)) (sA.free hx) h1 h2 h3⟩⟩
  rw [aH (aP (sA _ _ e) hx),aH (aP (sA _ _ e) SK)]
  exact sA _ _ e
theorem gw:aC ["text","kinds","rules","line"] ["text"] (au mm):=⟨rfl,rfl,rfl,by decide +kernel,rfl,by decide +kernel,by decide +kernel⟩
theorem AQ (F:dn K "read_book" "read_book" mm f fd) (kb:dz P w K mg base "told_lines" 2 ["text"] F9) (mL:dz P w K mg base "hear_line" 8 ["kinds","rules","line"] (JR K c)) (kc:Ac P w K mg base "whole_book" 3 ["kinds","rules"] (Dk K c Cs)) :
  a4 P w K mg base (Ef P w) 9 f fd ["text"] (Gw K c Cs):=by
 refine F.QP gw (fun vs H Q E h=>?_) (fun cJ A outer s H vs Q E hr h=>?_)
 ·obtain⟨ls,its,rfl,_⟩:=h
  rfl
 obtain⟨ls,its,rfl,h0,hN,hx,B,LP,Vk,q⟩:=h
 refine⟨_,(ah (ay (i:=1) gw.nd rfl (aaM rfl) (aV ag))
 (ah (ay (i:=2) gw.nd rfl (aaM rfl) (aV ag))
 (ah (b8 jb rfl (aT (ao kb (hr.mono (by decide)) rfl (aa (pv 0) ag))) (bw (i:=3) gw.nd rfl (aaM rfl))
 (ak (bh (ao mL (hr.mono (by decide)) rfl (aa (pv 1) (aa (pv 2) (aa (pv 3) ag)))))))
 (ak (aG (lP kc (hr.mono (by decide)) rfl (aa (pv 1) (aa (pv 2) ag)))))))),?_⟩
 refine⟨(by show 0≤aaj;decide),fun lk Td=>⟨(by show 0≤aaj;decide),fun lr rJ=>?_⟩⟩
 have nkr:lk≠lr:=fun z=>by rw [← z,ae] at rJ;cases rJ
 have Te:H lr=none:=(aj Td _).free rJ
 have s0:ai H (upd (upd H lk (.lst [])) lr (.lst [])):=ai.trans (aj Td _) (aj rJ _)
 have Lu:upd (upd H lk (.lst [])) lr (.lst []) lk=some (.lst []):=by rw [aH nkr];exact ae
 have HE:upd (upd H lk (.lst [])) lr (.lst []) lr=some (.lst []):=ae
 generalize upd (upd H lk (.lst [])) lr (.lst [])=B0 at s0 Lu HE
 refine⟨_,rfl,ls,rfl,h0,hN,hx,fun v H1 s1 T1=>?_⟩
 obtain⟨l,rfl,Hs,hl⟩:=T1
 rw [B.lines] at hl
 have nlk:l≠lk:=fun z=>by rw [z,Lu] at Hs;cases Hs
 have nlr:l≠lr:=fun z=>by rw [z,HE] at Hs;cases Hs
 refine⟨l,rfl,⟨_,aL.of hl⟩,bP (K:=K) (a:=l) (xs:=(its.map (·.1)).map tx) (fun i σ H'=>∃(kvs rK:List V) (o:Option V),σ=[some (tx (cH ls)),some (.ref lk),some (.ref lr),o]∧(∀b o,b≠lk→b≠lr→H1 b=some o→H' b=some o) ∧
   oE K c B0 H' lk lr (fo ((its.take i).map (·.2))) (eT ((its.take i).map (·.2))) kvs rK)
  ⟨[],[],none,rfl,fun _ _ _ _ h=>h,⟨s1 _ _ Lu,.nil,s1 _ _ HE,.nil,nkr,⟨_,Lu⟩,⟨_,HE⟩,fun b h=>s1.free h,abt _,abt _⟩⟩ (fun i σ H' _ ⟨_,_,_,_,k1,_⟩=>aL.of (k1 _ _ nlk nlr hl)) ?_ ?_⟩
 ·rintro i y σ H' hi ⟨kvs,rK,o,rfl,k1,I⟩
  obtain⟨xi,ey⟩:=aN hi
  rw [Lm9,Lm9] at xi
  rw [aaG,aaG] at ey
  subst ey
  have hm:=aap xi
  have QS:=B.ok _ hm
  have N6:=vB ((its.take i).map (·.2))
  have SN:=vC ((its.take i).map (·.2))
  rw [Lm9,aaA] at N6 SN
  have hfew:=B.few
  have Tf:its[i].1.length≤20000:=by
   have z:its[i].1∈ls:=by
    have z2:its[i].1∈ls.filter told:=by rw [B.lines];exact aay.mpr ⟨_,hm,rfl⟩
    exact(abf.mp z2).1
   have:=rY ls _ z
   omega
  have KR:(its.take (i+1)).map (·.2)=(its.take i).map (·.2)++[its[i].2]:=by
   rw [aak xi,aat]
   rfl
  have XO:its.map (·.2)=(its.take i).map (·.2)++([its[i].2]++(its.drop (i+1)).map (·.2)):=by
   rw [ac2,← aa5 (f:=(·.2)) (a:=its[i]) (l:=its.drop (i+1)),← aat,← abE xi,ac3]
  refine⟨_,rfl,_,rfl,_,rfl,B0,lk,lr,_,_,kvs,rK,its[i].1,rfl,I,by omega,by omega,Tf,QS.1,?_⟩
  have Tg:=B.nk
  have Th:=B.nr
  rw [XO] at Tg Th
  rw [jg,jg] at Tg
  rw [jh,jh] at Th
  rcases QS with⟨-,N1,Vm⟩
  generalize its[i].2=it at N1 Vm KR Tg Th
  cases it with
  | kind k =>
   refine .inl ⟨k,N1,Vm,?_,fun v H2 k2 I2=>⟨kvs++[v],rK,_,rfl,fun b o b1 b2 e=>k2 b o b1 (k1 b o b1 b2 e),?_⟩⟩
   ·intro LZ
    rw [aat,aat,acu] at Tg
    exact Tg.2.2 k.n LZ k.n (aas _ (by simp [fo])) rfl
   ·rw [KR,jg,jh]
    show oE K c B0 H2 lk lr (_++[k]) (_++[]) _ _
    rw [aaZ]
    exact I2
  | rule t L =>
   refine .inr ⟨t,L,N1,Vm.1,Vm.2,?_,fun v H2 k2 I2=>⟨kvs,rK++[v],_,rfl,fun b o b1 b2 e=>k2 b o b2 (k1 b o b1 b2 e),?_⟩⟩
   ·intro LZ
    rw [aat,aat,acu] at Th
    exact Th.2.2 t LZ t (aas _ (by simp [eT,ue])) rfl
   ·rw [KR,jg,jh]
    show oE K c B0 H2 lk lr (_++[]) (_++[ue t L]) _ _
    rw [aaZ]
    exact I2
 ·rintro σ H' ⟨kvs,rK,o,rfl,k1,I⟩
  rw [Lm9,Lm9,aa1] at I
  have sHx:ai H H':=fun b o e=>k1 b o (aP e Td) (aP e Te) (s1 _ _ (s0 _ _ e))
  refine⟨_,rfl,_,rfl,B0,lk,lr,_,_,kvs,rK,rfl,I,B.nk,LP,Vk.sm sHx,fun hJ x dx fs H2 s2 hx h1 h2 h3=>?_⟩
  have sH:=ai.trans sHx s2
  have Ti:∀b,B0 b=none→H b=none:=fun b h=>s0.free h
  refine q hJ _ _ sH ⟨x,dx,fs,rfl,Ti x (I.vq x hx),h1,⟨_,h2,lk,kvs,rfl,Td,s2 _ _ I.hk,L2.Paired.d9 I.pk fun _ _ z=>z.keep (H0:=H) (Kp.same s2)⟩,⟨_,h3,lr,rK,rfl,Te,s2 _ _ I.hr,L2.Paired.d9 I.pr fun _ _ z=>ij.cG Ti (z.keep (Kp.same s2))⟩⟩
end
end ft
namespace ft
open PySem L2 cR Bk
set_option maxHeartbeats 4000000
section
variable {P:aaS} {w:abg} {K:aae} {mg:Str→Option aai} {base:Heap} {f:aaB} {fd:aa9}
theorem uo:aC ["_law_script","_law_k"] ["_law_script","_law_k"] (au gP):=⟨rfl,rfl,rfl,by decide +kernel,rfl,by decide +kernel,by decide +kernel⟩
theorem uq (F:dn K "_law_cell_at" "_law_cell_at" gP f fd) (aY:mg "len"=none):a4 P w K mg base dJ 1 f fd ["_law_script","_law_k"] (EK K):=by
 refine F.ok uo (fun vs H Q E h=>?_) (fun cJ A outer s H vs Q E hr h=>?_)
 ·obtain⟨a,ns,k,rfl,_⟩:=h
  rfl
 obtain⟨a,ns,k,rfl,hS,h0,q⟩:=h
 refine⟨_,(ah (aX (aE uV (pv 1) (aK aB rfl aY aaF (aa (pv 0) ag)) (aM _))
 (ak (aG (aq aJ (pv 0) (pv 1) (fun _ _=>rfl))))
 aI)
 (ak (aG af))),?_⟩
 refine⟨_,rfl,_,rfl,a,_,rfl,.inl hS,_,_,rfl,rfl,_,rfl,?_⟩
 refine eV (fun c=>?_) (fun c=>?_)
 ·have c':k<(((ns.map V.int).length:Nat):Int):=of_decide_eq_true c
  have hk:k.toNat<ns.length:=by rw [Lm9] at c';omega
  have e:lu (ns.map V.int) k=some (.int ns[k.toNat]):=by
   have z:=bz (xs:=ns.map V.int) (j:=k.toNat) (v:=.int ns[k.toNat]) (by simp [hk])
   rw [show((k.toNat:Nat):Int)=k by omega] at z
   exact z
  exact⟨_,rfl,_,rfl,a,_,k,_,rfl,rfl,hS,e,q _⟩
 ·exact q 0
theorem tJ:aC ["_law_cell","_law_k","_law_factor"] ["_law_cell","_law_k"] (au oJ):=⟨rfl,rfl,rfl,by decide +kernel,rfl,by decide +kernel,by decide +kernel⟩
theorem Dy (F:dn K "_law_mix" "_law_mix" oJ f fd):a4 P w K mg base dJ 1 f fd ["_law_cell","_law_k"] tD:=by
 refine F.ok tJ (fun vs H Q E h=>?_) (fun cJ A outer s H vs Q E hr h=>?_)
 ·obtain⟨c,k,rfl,_⟩:=h
  rfl
 obtain⟨c,k,rfl,h0,h1,q⟩:=h
 refine⟨_,(@ah _ _ _ _ _ (@ay _ _ (2) _ _ _ _ tJ.nd rfl (aaM rfl) (@aq _ _ _ _ _ _ _ (@aJ _) (@aV _ _ _ _ (@aa _ _ _ _ _ (@af _ _ _ _) (@aa _ _ _ _ _ (@af _ _ _ _) (@aa _ _ _ _ _ (@af _ _ _ _) (@aa _ _ _ _ _ (@af _ _ _ _) (@aa _ _ _ _ _ (@af _ _ _ _) (@aa _ _ _ _ _ (@af _ _ _ _) (@aa _ _ _ _ _ (@af _ _ _ _) (@ag _) (by rfl)) (by rfl)) (by rfl)) (by rfl)) (by rfl)) (by rfl)) (by rfl))) (@aw _ _ _ _ _ _ _ _ (@bt _) (pv 1) (@af _ _ _ _)) (fun _ _=>rfl)) (by rfl) (by first|exact .inl rfl|exact .inr rfl|assumption)) (@ak _ _ _ (@aG _ _ _ _ (@aw _ _ _ _ _ _ _ _ (@bt _) (@aw _ _ _ _ _ _ _ _ (@jx _) (@aw _ _ _ _ _ _ _ _ (@cE _) (@aw _ _ _ _ _ _ _ _ (@bt _) (pv 0) (@af _ _ _ _)) (@aw _ _ _ _ _ _ _ _ (@jx _) (@af _ _ _ _) (pv 1))) (pv 2)) (@af _ _ _ _))))),?_⟩
 refine⟨(by show 7≤aaj;decide),fun p hp=>?_⟩
 have hm:=mid (a:=k) (b:=7) (by decide)
 have hx:∃v:Int,lu [V.int 48271,.int 69621,.int 16807,.int 40692,.int 30269,.int 62089,.int 45991] (k % 7)=some (.int v)∧-(2 ^ 64)<v∧v<2 ^ 64:=by
  rcases(by omega:k % 7=0∨k % 7=1∨k % 7=2∨k % 7=3∨k % 7=4∨k % 7=5∨k % 7=6) with e|e|e|e|e|e|e <;> rw [e]
  ·exact⟨48271,rfl,by decide,by decide⟩
  ·exact⟨69621,rfl,by decide,by decide⟩
  ·exact⟨16807,rfl,by decide,by decide⟩
  ·exact⟨40692,rfl,by decide,by decide⟩
  ·exact⟨30269,rfl,by decide,by decide⟩
  ·exact⟨62089,rfl,by decide,by decide⟩
  ·exact⟨45991,rfl,by decide,by decide⟩
 obtain⟨v,hv,v0,v1⟩:=hx
 refine⟨_,rfl,_,_,rfl,rfl,(by show(0:Int)<7;decide),p,_,_,_,rfl,rfl,.inl (.inl ae),hv,?_⟩
 refine⟨_,rfl,_,_,rfl,rfl,(by show(0:Int)<1000003;decide),_,rfl,_,_,rfl,rfl,.inl ⟨by decide,by decide⟩,_,_,rfl,rfl,_,rfl,_,_,rfl,rfl,.inr ⟨v0,v1⟩,_,_,rfl,rfl,(by show(0:Int)<999983;decide),?_⟩
 exact q _ _ (aj hp _) (adj _ (by decide))
theorem cw:aC ["_law_cell","_law_many","_law_firsts","_law_rest","_law_number","_law_start","_law_tail","_law_size","_law_at"] ["_law_cell","_law_many","_law_firsts"] (au jS):=⟨rfl,rfl,rfl,by decide +kernel,rfl,by decide +kernel,by decide +kernel⟩
theorem xO (F:dn K "_law_names" "_law_names" jS f fd) (a8:dz P w K mg base "_law_mix" 1 ["_law_cell","_law_k"] tD) (aY:mg "len"=none) (bY:mg "range"=none) :
  a4 P w K mg base dJ 2 f fd ["_law_cell","_law_many","_law_firsts"] uI:=by
 refine F.ok cw (fun vs H Q E h=>?_) (fun cJ A outer s H vs Q E hr h=>?_)
 ·obtain⟨c,n,fs,rfl,_⟩:=h
  rfl
 obtain⟨c,n,fs,rfl,hn,hf0,hf1,mI,hnd,q⟩:=h
 have AI:(S fs).length=fs.length:=aS fs
 refine⟨_,(ah (ay (i:=3) cw.nd rfl (ady rfl) aF)
 (ah (ay (i:=4) cw.nd rfl (ady rfl) (ao a8 (hr.mono (by decide)) rfl (aa (pv 0) (aa af ag))))
 (ah (ay (i:=5) cw.nd rfl (ady rfl) (aw bt (aw cK (pv 4) af) (aK eU rfl aY aaF (aa (pv 2) ag))))
 (ah (ay (i:=6) cw.nd rfl (ady rfl) (bx aaC aaO aaP cf aF (aa (bG [3,4] rfl (by kernel_rfl) (cC rfl bY (aa af ag)) (fun _ _ _ _ _=>bE) (fun _ _ _ _ _=>(aq fW (pv 1) (aw bt (aw cE (aw cK (pv 2) (aw cE (pv 0) af)) (aw jx (pv 0) (pv 0))) af) (fun _ _=>rfl)))) ag)))
 (ah (aX (aE cg (aw bt (pv 4) af) af (aM _))
 (ak (aG (bG [2,5,6] rfl (by kernel_rfl) (cC rfl bY (aa (pv 1) ag)) (fun _ _ _ _ _=>bE) (fun _ _ _ _ _=>(aw aQ (aq fW (pv 1) (pv 2) (fun _ _=>rfl)) (cy uZ (pv 3) d4 (cv (pv 0))))))))
 aI)
 (ah (aX (aE cg (aw bt (pv 4) af) af (aM _))
 (ah (ay (i:=7) cw.nd rfl (ady rfl) (aw bt (aw cK (pv 4) af) af))
 (ak (aG (bG [2,5,6,7] rfl (by kernel_rfl) (cC rfl bY (aa (pv 1) ag)) (fun _ _ _ _ _=>bE) (fun _ _ _ _ _=>(aw aQ (aq fW (pv 1) (aw bt (aw cE (pv 2) (pv 0)) (aK eU rfl aY aaF (aa (pv 1) ag))) (fun _ _=>rfl)) (cy uZ (pv 3) d4 (cv (pv 4)))))))))
 aI)
 (ah (ay (i:=7) cw.nd rfl (ady rfl) (aw bt (aw cK (pv 4) af) af))
 (ah (ay (i:=8) cw.nd rfl (ady rfl) (aw bt (aw cK (pv 4) af) (aw cE (pv 7) af)))
 (ah (ay (i:=3) cw.nd rfl (ady rfl) (bG [3,4] rfl (by kernel_rfl) (cC rfl bY (aa (pv 1) ag)) (fun _ _ _ _ _=>bE) (fun _ _ _ _ _=>(aq fW (pv 1) (aw bt (aw cE (aw cK (pv 2) af) (pv 0)) af) (fun _ _=>rfl)))))
 (ak (aG (bG [2,5,6,8,7] rfl (by kernel_rfl) (aT (pv 3)) (fun _ _ _ _ _=>bE) (fun _ _ _ _ _=>(aw aQ (aw aQ (aw aQ (aq fW (pv 1) (pv 2) (fun _ _=>rfl)) (cy uZ (pv 3) d4 (cv (pv 4)))) (pv 0)) (cy uZ (pv 3) (cv (pv 4)) (cv (pv 5))))))))))))))))),?_⟩
 refine⟨_,rfl,c,0,rfl,by decide,by decide,fun v H1 s1 v0=>?_⟩
 have Q3:(0:Int)<((S fs).length:Int):=by rw [AI];omega
 refine⟨_,rfl,_,_,rfl,rfl,⟨by decide,by decide⟩,_,rfl,S fs,rfl,(by rw [AI];exact sz (by omega)),_,_,rfl,rfl,Q3,?_⟩
 have md:=mid (a:=v / 5) Q3
 obtain⟨cs,Ed,XQ⟩:=sign_of (x:=S fs) md.1 md.2
 rw [bH] at XQ
 refine⟨rfl,11,rfl,by decide,by decide,fun D hD=>?_⟩
 have xr:H D=none:=s1.free hD
 refine dU (lo:=0) (n:=(11:Int).toNat) (iC (by decide)) (fun i ys H'=>ai H1 H'∧H' D=some (.lst ys)∧∃T:List Nat,ys=(T.map fun c=>S [c]).map V.str∧T.length=i∧T.all bp=true)
  ⟨aj hD _,ae,[],rfl,rfl,rfl⟩ (fun i ys H' pr=>⟨pr.2.1,?_⟩) (fun i ys H' hi pr=>?_) (fun ys H' pr=>?_)
 ·obtain⟨T,rfl,hl,_⟩:=pr.2.2
  rw [Lm9,Lm9]
  omega
 ·obtain⟨T,rfl,hl,hT⟩:=pr.2.2
  have hi':i<11:=hi
  refine⟨_,rfl,_,rfl,_,rfl,_,_,rfl,rfl,_,_,rfl,rfl,⟨by omega,by omega⟩,_,rfl,_,rfl,_,_,rfl,rfl,.inl ⟨by omega,by omega⟩,_,_,rfl,rfl,_,_,rfl,rfl,(by show(0:Int)<62;decide),?_⟩
  have Tj:=mid (a:=v / (0+(i:Int)+1)+(0+(i:Int)) * (0+(i:Int))) (b:=62) (by decide)
  obtain⟨d,hd,Vn⟩:=sign_of (x:=uf) Tj.1 (by rw [qd];exact Tj.2)
  refine⟨_,_,d,rfl,rfl,(by decide +kernel),hd,pr.2.1,?_⟩
  refine⟨ai.aR pr.1 hD _,ae,T++[d],by simp,by simp [hl],?_⟩
  have z:=JT
  rw [aa4] at z
  rw [abc,hT,abl,z d Vn]
  rfl
 obtain⟨T,rfl,hTl,Qk⟩:=pr.2.2
 have sm:=pr.1
 have Tn:T.length=11:=hTl
 refine⟨_,D,T.map fun c=>S [c],rfl,rfl,.inl (.inl (.inl pr.2.1)),?_,?_⟩
 ·have z:((T.map fun c=>S [c]).map (·.length)).sum≤11:=by
   have z2:=dk (as:=T.map fun c=>[c]) (B:=1) (by simp)
   rw [Lm9,Tn] at z2
   have e:(T.map fun c=>S [c])=(T.map fun c=>[c]).map S:=by rw [abz];rfl
   rw [e]
   exact z2
  have z3:(T.map fun c=>S [c]).length=11:=by rw [Lm9];exact Tn
  rw [z3,show(aaf "").length=0 by decide]
  omega
 rw [Pz]
 refine⟨_,rfl,_,_,rfl,rfl,(by show(0:Int)<3;decide),rfl,_,rfl,?_⟩
 have Oe:∀l:List Nat,l.length≤100→(S l).length≤aaj:=fun l h=>by rw [aS];exact sz (by omega)
 have zQ:lu (S fs).cps.toList (v / 5 % ((S fs).length:Int))=some cs:=Ed
 have e1c:(⟨#[cs]⟩:Str)=S [cs]:=rfl
 refine eV (fun c1=>?_) (fun c1=>?_)
 ·
  refine⟨_,rfl,n,rfl,by omega,by omega,fun D2 kO=>?_⟩
  refine dU (lo:=0) (n:=((n:Nat):Int).toNat) (iC (by omega)) (fun i ys H2=>ai H H2∧H2 D2=some (.lst ys)∧∃zs:List (List Nat),ys=zs.map tx∧zs.length=i∧(∀z∈zs,Good fs z)∧zs=(abC i).map fun k:Nat=>[cs]++T.take k)
   ⟨ai.aR (ai.trans s1 sm) ((ai.trans s1 sm).free kO) _,ae,[],rfl,rfl,(fun _ z=>nomatch z),rfl⟩ (fun i ys H2 nU=>⟨nU.2.1,?_⟩) (fun i ys H2 hi nU=>?_) (fun ys H2 nU=>?_)
  ·obtain⟨zs,rfl,hl,_,_⟩:=nU.2.2
   rw [Lm9]
   omega
  ·obtain⟨zs,rfl,hl,hg,E8⟩:=nU.2.2
   have hi':i<n:=by omega
   refine⟨_,rfl,_,rfl,S fs,_,cs,rfl,rfl,Oe fs (by omega),zQ,_,rfl,_,rfl,_,rfl,S T,rfl,Oe T (by omega),?_⟩
   rw [show(0:Int)+(i:Int)=((i:Nat):Int) by omega,vD (by omega),e1c]
   refine⟨_,_,rfl,rfl,(by rw [aS,aS,aaA];exact sz (by simp;omega)),?_⟩
   rw [di]
   refine⟨nU.2.1,ai.aR nU.1 ((ai.trans s1 sm).free kO) _,ae,zs++[[cs]++T.take i],by simp,by simp [hl],fun z hz=>?_,by rw [acT,aat,E8];rfl⟩
   rcases aaq.mp hz with hz|hz
   ·exact hg z hz
   ·rw [aal.mp hz]
    refine z9 XQ mI ?_ (by rw [aaA];omega)
    rw [aa4] at Qk ⊢
    exact fun y hy=>Qk y (abn hy)
  ·obtain⟨zs,rfl,hl,hg,E8⟩:=nU.2.2
   refine q D2 zs H2 nU.1 ((ai.trans s1 sm).free kO) nU.2.1 (by omega) hg ?_
   rw [E8]
   refine fX fun a b ha hb e=>?_
   have e2:=congrArg aco e
   rw [aag,aag,aaA,aaA] at e2
   omega
 refine⟨_,rfl,_,_,rfl,rfl,(by show(0:Int)<3;decide),rfl,_,rfl,?_⟩
 refine eV (fun c2=>?_) (fun c2=>?_)
 ·refine⟨_,rfl,_,_,rfl,rfl,⟨by decide,by decide⟩,_,_,rfl,rfl,(by show(0:Int)<12;decide),?_⟩
  have mds:=mid (a:=v / 3) (b:=12) (by decide)
  refine⟨_,rfl,n,rfl,by omega,by omega,fun D2 kO=>?_⟩
  refine dU (lo:=0) (n:=((n:Nat):Int).toNat) (iC (by omega)) (fun i ys H2=>ai H H2∧H2 D2=some (.lst ys)∧∃zs:List (List Nat),ys=zs.map tx∧zs.length=i∧(∀z∈zs,Good fs z)∧zs=(abC i).map fun k:Nat=>[fs.getD ((v / 5 % ((S fs).length:Int)+(0+(k:Int))) % ((S fs).length:Int)).toNat 0]++T.take (v / 3 % 12).toNat)
   ⟨ai.aR (ai.trans s1 sm) ((ai.trans s1 sm).free kO) _,ae,[],rfl,rfl,(fun _ z=>nomatch z),rfl⟩ (fun i ys H2 nU=>⟨nU.2.1,?_⟩) (fun i ys H2 hi nU=>?_) (fun ys H2 nU=>?_)
  ·obtain⟨zs,rfl,hl,_,_⟩:=nU.2.2
   rw [Lm9]
   omega
  ·obtain⟨zs,rfl,hl,hg,E8⟩:=nU.2.2
   have hi':i<n:=by omega
   have mdk:=mid (a:=v / 5 % ((S fs).length:Int)+(0+(i:Int))) Q3
   have XR:=vr (x:=S fs) mdk.1 mdk.2
   have To:fs.getD ((v / 5 % ((S fs).length:Int)+(0+(i:Int))) % ((S fs).length:Int)).toNat 0∈fs:=abB (getD_get (by rw [← AI];omega))
   rw [bH fs] at XR
   generalize XS:fs.getD ((v / 5 % ((S fs).length:Int)+(0+(i:Int))) % ((S fs).length:Int)).toNat 0=ck at XR To
   refine⟨_,rfl,_,rfl,_,rfl,_,_,rfl,rfl,_,rfl,S fs,rfl,Oe fs (by omega),_,_,rfl,rfl,Q3,S fs,_,ck,rfl,rfl,Oe fs (by omega),(by rw [bH];exact XR),_,rfl,_,rfl,_,rfl,S T,rfl,Oe T (by omega),?_⟩
   have hsz:v / 3 % 12=(((v / 3 % 12).toNat:Nat):Int):=by omega
   rw [hsz,vD (by omega)]
   refine⟨_,_,rfl,rfl,(by rw [aS,aS,aaA];exact sz (by simp;omega)),?_⟩
   rw [show(⟨#[ck]⟩:Str)=S [ck] from rfl,di]
   refine⟨nU.2.1,ai.aR nU.1 ((ai.trans s1 sm).free kO) _,ae,zs++[[ck]++T.take (v / 3 % 12).toNat],by simp,by simp [hl],fun z hz=>?_,by rw [acT,aat,E8,← XS];rfl⟩
   rcases aaq.mp hz with hz|hz
   ·exact hg z hz
   ·rw [aal.mp hz]
    refine z9 To mI ?_ (by rw [aaA];omega)
    rw [aa4] at Qk ⊢
    exact fun y hy=>Qk y (abn hy)
  ·obtain⟨zs,rfl,hl,hg,E8⟩:=nU.2.2
   refine q D2 zs H2 nU.1 ((ai.trans s1 sm).free kO) nU.2.1 (by omega) hg ?_
   rw [E8]
   refine fX fun a b ha hb e=>?_
   have e2:fs.getD ((v / 5 % ((S fs).length:Int)+(0+(a:Int))) % ((S fs).length:Int)).toNat 0=fs.getD ((v / 5 % ((S fs).length:Int)+(0+(b:Int))) % ((S fs).length:Int)).toNat 0:=(List.cons.inj e).1
   have e3:=vE hnd (by have:=mid (a:=v / 5 % ((S fs).length:Int)+(0+(a:Int))) Q3;omega) (by have:=mid (a:=v / 5 % ((S fs).length:Int)+(0+(b:Int))) Q3;omega) e2
   exact Gh (by omega) (by omega) e3
 refine⟨_,rfl,_,_,rfl,rfl,⟨by decide,by decide⟩,_,_,rfl,rfl,(by show(0:Int)<11;decide),?_⟩
 have mds:=mid (a:=v / 3) (b:=11) (by decide)
 refine⟨_,rfl,_,_,rfl,rfl,⟨by decide,by decide⟩,_,rfl,_,_,rfl,rfl,_,_,rfl,rfl,(by show(0:Int)<_;omega),?_⟩
 have mda:=mid (a:=v / 33) (b:=v / 3 % 11+1) (by omega)
 refine⟨_,rfl,n,rfl,by omega,by omega,fun D2 kO=>?_⟩
 refine dU (lo:=0) (n:=((n:Nat):Int).toNat) (iC (by omega)) (fun i ys H2=>ai H H2∧H2 D2=some (.lst ys)∧∃cs:List Nat,ys=(cs.map fun c=>[c]).map tx∧cs.length=i∧(∀c∈cs,bp c=true)∧cs=(abC i).map fun k:Nat=>uf.cps.toList.getD ((v / 7+(0+(k:Int))) % ((62:Nat):Int)).toNat 0)
  ⟨ai.aR (ai.trans s1 sm) ((ai.trans s1 sm).free kO) _,ae,[],rfl,rfl,(fun _ z=>nomatch z),rfl⟩ (fun i ys H2 nU=>⟨nU.2.1,?_⟩) (fun i ys H2 hi nU=>?_) (fun ys H2 nU=>?_)
 ·obtain⟨cs,rfl,hl,_,_⟩:=nU.2.2
  rw [Lm9,Lm9]
  omega
 ·obtain⟨zs,rfl,hl,hg,E8⟩:=nU.2.2
  have Tj:=mid (a:=v / 7+(0+(i:Int))) (b:=62) (by decide)
  have hd:=vr (x:=uf) Tj.1 (by rw [qd];exact Tj.2)
  have Vn:uf.cps.toList.getD ((v / 7+(0+(i:Int))) % 62).toNat 0∈uf.cps.toList:=abB (getD_get (by rw [lJ,qd];omega))
  generalize hde:uf.cps.toList.getD ((v / 7+(0+(i:Int))) % 62).toNat 0=d at hd Vn
  refine⟨_,rfl,_,rfl,_,_,rfl,rfl,⟨by decide,by decide⟩,_,rfl,_,_,rfl,rfl,_,_,rfl,rfl,(by show(0:Int)<62;decide),_,_,d,rfl,rfl,(by decide +kernel),hd,nU.2.1,?_⟩
  refine⟨ai.aR nU.1 ((ai.trans s1 sm).free kO) _,ae,zs++[d],by simp,by simp [hl],fun z hz=>?_,by rw [acT,aat,E8,← hde];rfl⟩
  rcases aaq.mp hz with hz|hz
  ·exact hg z hz
  ·rw [aal.mp hz]
   have z:=JT
   rw [aa4] at z
   exact z d Vn
 obtain⟨ks,rfl,N6,hka,Lu⟩:=nU.2.2
 have nM:=nU.1
 have MM:=nU.2.1
 refine⟨_,rfl,D2,rfl,⟨_,aL.of MM⟩,fun D3 Q4=>?_⟩
 obtain⟨pa,Ve⟩:∃pa:Nat,v / 33 % (v / 3 % 11+1)=(pa:Int):=⟨_,(adl mda.1).symm⟩
 obtain⟨pb,hpb⟩:∃pb:Nat,v / 3 % 11=((pa+pb:Nat):Int):=⟨(v / 3 % 11 - pa).toNat,by omega⟩
 have h23:D2≠D3:=fun z=>by rw [z,Q4] at MM;cases MM
 refine i9 (K:=K) (a:=D2) (xs:=(ks.map fun c=>[c]).map tx) (by rw [Lm9,Lm9];exact iC (by omega))
  (fun i ys H3=>ai H H3∧H3 D3=some (.lst ys)∧H3 D2=some (.lst ((ks.map fun c=>[c]).map tx))∧∃zs:List (List Nat),ys=zs.map tx∧zs.length=i∧(∀z∈zs,Good fs z)∧zs=(abC i).map fun k:Nat=>(([cs]++T.take pa)++[ks.getD k 0])++(T.drop pa).take pb)
  ⟨ai.aR nM (nM.free Q4) _,ae,by rw [aH h23];exact MM,[],rfl,rfl,(fun _ z=>nomatch z),rfl⟩ (fun i ys H3 HF=>aL.of HF.2.2.1) (fun i ys H3 HF=>⟨HF.2.1,?_⟩) (fun i ys H3 hi HF=>?_) (fun ys H3 HF=>?_)
 ·obtain⟨zs,rfl,hl,_,_⟩:=HF.2.2.2
  rw [Lm9]
  omega
 ·obtain⟨zs,rfl,hl,hg,E8⟩:=HF.2.2.2
  have hi':i<ks.length:=by simpa using hi
  have eg:((ks.map fun c=>[c]).map tx).getD i .cB=tx [ks[i]]:=by
   rw [Gd9,aa6,aa6,Ge9 hi']
   rfl
  rw [eg]
  refine⟨_,rfl,_,rfl,S fs,_,cs,rfl,rfl,Oe fs (by omega),zQ,_,rfl,_,rfl,_,rfl,S T,rfl,Oe T (by omega),?_⟩
  rw [Ve,vD (by omega),e1c]
  refine⟨_,_,rfl,rfl,(by rw [aS,aS,aaA];exact sz (by simp;omega)),?_⟩
  rw [di]
  refine⟨_,rfl,_,_,rfl,rfl,(by rw [aS,aS,aag,aaA];exact sz (by simp;omega)),?_⟩
  rw [di]
  refine⟨_,rfl,_,rfl,_,rfl,_,rfl,_,rfl,S T,rfl,Oe T (by omega),?_⟩
  have e2:=F6 (x:=S T) (p:=pa) (n:=pb) (by rw [aS];omega)
  rw [bH] at e2
  rw [Ve,hpb,e2]
  refine⟨_,_,rfl,rfl,(by rw [aS,aS,aag,aag,aaA,aaA,aba];exact sz (by simp;omega)),?_⟩
  rw [di]
  refine⟨HF.2.1,ai.aR HF.1 (nM.free Q4) _,ae,by rw [aH h23];exact HF.2.2.1,zs++[(([cs]++T.take pa)++[ks[i]])++(T.drop pa).take pb],by simp,by simp [hl],fun z hz=>?_,by rw [acT,aat,E8];simp only [aa5,abJ];rw [Gd9 (i:=i),Ge9 hi'];rfl⟩
  rcases aaq.mp hz with hz|hz
  ·exact hg z hz
  ·rw [aal.mp hz]
   rw [aaT,aaT]
   refine z9 XQ mI ?_ ?_
   ·rw [aa4] at Qk ⊢
    intro y hy
    rcases aaq.mp hy with hy|hy
    ·exact Qk y (abn hy)
    ·rcases aaq.mp hy with hy|hy
     ·rw [aal.mp hy]
      exact hka _ (aap hi')
     ·exact Qk y (abT (abn hy))
   ·rw [aag,aag,aaA,aaA,aba]
    simp
    omega
 ·obtain⟨zs,rfl,hl,hg,E8⟩:=HF.2.2.2
  have aeh:ks.length=n:=by omega
  rw [Lm9,Lm9] at E8 hl
  refine q D3 zs H3 HF.1 (nM.free Q4) HF.2.1 (by omega) hg ?_
  rw [E8]
  refine fX fun a b ha hb e=>?_
  have e3:[ks.getD a 0]=[ks.getD b 0]:=by
   have z:=List.append_inj_left' e rfl
   exact List.append_inj_right z rfl
  have e4:ks.getD a 0=ks.getD b 0:=(List.cons.inj e3).1
  have gk:∀k,k<n→ks.getD k 0=uf.cps.toList.getD ((v / 7+(0+(k:Int))) % ((62:Nat):Int)).toNat 0:=fun k hk=>by
   rw [Lu,Gd9,aa6,List.getElem?_range (by omega)]
   rfl
  rw [gk a (by omega),gk b (by omega)] at e4
  have e5:=vE (by decide +kernel) (by rw [lJ,qd];have:=mid (a:=v / 7+(0+(a:Int))) (b:=62) (by decide);omega) (by rw [lJ,qd];have:=mid (a:=v / 7+(0+(b:Int))) (b:=62) (by decide);omega) e4
  exact Gh (by omega) (by omega) e5
theorem wg:aC ["_law_cell","_law_many"] ["_law_cell","_law_many"] (au iK):=⟨rfl,rfl,rfl,by decide +kernel,rfl,by decide +kernel,by decide +kernel⟩
theorem wj (F:dn K "_law_titles" "_law_titles" iK f fd) (cP:dz P w K mg base "_law_names" 2 ["_law_cell","_law_many","_law_firsts"] uI):a4 P w K mg base dJ 3 f fd ["_law_cell","_law_many"] (oF ef.cps.toList):=by
 refine F.ok wg (fun vs H Q E h=>?_) (fun cJ A outer s H vs Q E hr h=>?_)
 ·obtain⟨c,n,rfl,_⟩:=h
  rfl
 obtain⟨c,n,rfl,hn,q⟩:=h
 refine⟨_,(ak (aG (ao cP (hr.mono (by decide)) rfl (aa (pv 0) (aa (pv 1) (aa aF ag)))))),?_⟩
 exact⟨_,rfl,_,rfl,c,n,ef.cps.toList,(by show [V.int c,V.int n,V.str ef]=[V.int c,V.int n,V.str (S ef.cps.toList)];rw [vp]),hn,by decide +kernel,by decide +kernel,by decide +kernel,by decide +kernel,q⟩
theorem xQ:aC ["_law_cell","_law_many"] ["_law_cell","_law_many"] (au jT):=⟨rfl,rfl,rfl,by decide +kernel,rfl,by decide +kernel,by decide +kernel⟩
theorem xR (F:dn K "_law_opens" "_law_opens" jT f fd) (cP:dz P w K mg base "_law_names" 2 ["_law_cell","_law_many","_law_firsts"] uI):a4 P w K mg base dJ 3 f fd ["_law_cell","_law_many"] (oF eX.cps.toList):=by
 refine F.ok xQ (fun vs H Q E h=>?_) (fun cJ A outer s H vs Q E hr h=>?_)
 ·obtain⟨c,n,rfl,_⟩:=h
  rfl
 obtain⟨c,n,rfl,hn,q⟩:=h
 refine⟨_,(ak (aG (ao cP (hr.mono (by decide)) rfl (aa (pv 0) (aa (pv 1) (aa aF ag)))))),?_⟩
 exact⟨_,rfl,_,rfl,c,n,eX.cps.toList,(by show [V.int c,V.int n,V.str eX]=[V.int c,V.int n,V.str (S eX.cps.toList)];rw [vp]),hn,by decide +kernel,by decide +kernel,by decide +kernel,by decide +kernel,q⟩
theorem xS:aC ["_law_cell","_law_many"] ["_law_cell","_law_many"] (au jU):=⟨rfl,rfl,rfl,by decide +kernel,rfl,by decide +kernel,by decide +kernel⟩
theorem xT (F:dn K "_law_words" "_law_words" jU f fd) (cP:dz P w K mg base "_law_names" 2 ["_law_cell","_law_many","_law_firsts"] uI):a4 P w K mg base dJ 3 f fd ["_law_cell","_law_many"] (oF Sl.cps.toList):=by
 refine F.ok xS (fun vs H Q E h=>?_) (fun cJ A outer s H vs Q E hr h=>?_)
 ·obtain⟨c,n,rfl,_⟩:=h
  rfl
 obtain⟨c,n,rfl,hn,q⟩:=h
 refine⟨_,(ak (aG (ao cP (hr.mono (by decide)) rfl (aa (pv 0) (aa (pv 1) (aa aF ag)))))),?_⟩
 exact⟨_,rfl,_,rfl,c,n,Sl.cps.toList,(by show [V.int c,V.int n,V.str Sl]=[V.int c,V.int n,V.str (S Sl.cps.toList)];rw [vp]),hn,by decide +kernel,by decide +kernel,by decide +kernel,by decide +kernel,q⟩
end
end ft
namespace ft
open PySem L2 cR Bk
set_option maxHeartbeats 4000000
section
variable {P:aaS} {w:abg} {K:aae} {mg:Str→Option aai} {base:Heap} {f:aaB} {fd:aa9}
theorem fact_words {g:Fc} (h:FN g):((g.as.map S).map (·.length)).sum+(g.as.map S).length * (aaf ",").length≤16777216:=by
 have z:=dk h.Mm
 have z2:=h.n
 have e:(aaf ",").length=1:=by decide +kernel
 rw [Lm9,e]
 have:g.as.length * 12≤4 * 12:=abO _ z2
 omega
theorem AR:aaf ","=(⟨#[44]⟩:Str):=by decide +kernel
theorem Dz (k:Cs) (as:List Cs):S k++aaf "("++adz (aaf ",") (as.map S)++aaf ")"=S (((k++[40])++fS 44 as)++[41]):=by
 have e1:aaf "("=S [40]:=by decide +kernel
 have e2:aaf ")"=S [41]:=by decide +kernel
 rw [e1,e2,AR,il,di,di,di]
theorem AS:aC ["fact"] ["fact"] (au lX):=⟨rfl,rfl,rfl,by decide +kernel,rfl,by decide +kernel,by decide +kernel⟩
theorem AU (F:dn K "fact_text" "fact_text" lX f fd) (aY:mg "len"=none):a4 P w K mg base dJ 1 f fd ["fact"] (Gm K):=by
 refine F.ok AS (fun vs H Q E h=>?_) (fun cJ A outer s H vs Q E hr h=>?_)
 ·obtain⟨v,g,rfl,_⟩:=h
  rfl
 obtain⟨v,g,rfl,⟨t,t2,rfl,h1,h2⟩,hg,q⟩:=h
 refine⟨_,(ah (aX (aE cg (aK aB rfl aY aaF (aa (aq ar (pv 0) af (fun _ _=>rfl)) ag)) af (aM _))
 (ak (aG (aq ar (pv 0) af (fun _ _=>rfl))))
 aI)
 (ak (aG (aw aQ (aw aQ (aw aQ (aq ar (pv 0) af (fun _ _=>rfl)) aF) (bx aaC aaO aaP cf aF (aa (aq ar (pv 0) af (fun _ _=>rfl)) ag))) aF)))),?_⟩
 have hk:=hg.PV
 have hj:=qj g.as hg.Mm
 have hn:=hg.n
 refine⟨_,rfl,t,_,1,_,rfl,rfl,h1,rfl,t2,_,rfl,.inr h2,rfl,_,rfl,?_⟩
 rw [Lm9]
 unfold aA at q
 by_cases e:g.as=[]
 ·rw [if_pos e] at q
  rw [e]
  exact cL ⟨_,rfl,t,_,0,_,rfl,rfl,h1,rfl,q⟩
 ·rw [if_neg e] at q
  have z:decide (V.int (g.as.length:Int)=V.int 0)=false:=by
   refine decide_eq_false fun z=>e ?_
   have z':(g.as.length:Int)=0:=by injection z
   exact aa2 (by omega)
  rw [z]
  have hjs:(adz (aaf ",") (g.as.map S)).length≤100:=by rw [AR,il,aS];omega
  refine bo ⟨_,rfl,t,_,0,_,rfl,rfl,h1,rfl,_,_,rfl,rfl,?_,?_⟩
  ·rw [aS,aax];have:(aaf "(").length=1:=by decide +kernel
   omega
  refine⟨rfl,_,rfl,t,_,1,_,rfl,rfl,h1,rfl,_,t2,g.as.map S,rfl,rfl,.inr (by rw [← dX];exact h2),fact_words hg,_,_,rfl,rfl,?_,_,_,rfl,rfl,?_,?_⟩
  ·rw [strLen_append,aS,aax]
   have:(aaf "(").length=1:=by decide +kernel
   omega
  ·rw [strLen_append,strLen_append,aS,aax]
   have:(aaf "(").length=1:=by decide +kernel
   have:(aaf ")").length=1:=by decide +kernel
   omega
  ·rw [Dz]
   exact q
theorem qt:aC ["_law_fact_here"] ["_law_fact_here"] (au fA):=⟨rfl,rfl,rfl,by decide +kernel,rfl,by decide +kernel,by decide +kernel⟩
theorem qv (F:dn K "_law_fact_text" "_law_fact_text" fA f fd) (aY:mg "len"=none):a4 P w K mg base dJ 1 f fd ["_law_fact_here"] (Gm K):=by
 refine F.ok qt (fun vs H Q E h=>?_) (fun cJ A outer s H vs Q E hr h=>?_)
 ·obtain⟨v,g,rfl,_⟩:=h
  rfl
 obtain⟨v,g,rfl,⟨t,t2,rfl,h1,h2⟩,hg,q⟩:=h
 refine⟨_,(ah (aX (aE cg (aK aB rfl aY aaF (aa (aq ar (pv 0) af (fun _ _=>rfl)) ag)) af (aM _))
 (ak (aG (aq ar (pv 0) af (fun _ _=>rfl))))
 aI)
 (ak (aG (aw aQ (aw aQ (aw aQ (aq ar (pv 0) af (fun _ _=>rfl)) aF) (bx aaC aaO aaP cf aF (aa (aq ar (pv 0) af (fun _ _=>rfl)) ag))) aF)))),?_⟩
 have hk:=hg.PV
 have hj:=qj g.as hg.Mm
 have hn:=hg.n
 refine⟨_,rfl,t,_,1,_,rfl,rfl,h1,rfl,t2,_,rfl,.inr h2,rfl,_,rfl,?_⟩
 rw [Lm9]
 unfold aA at q
 by_cases e:g.as=[]
 ·rw [if_pos e] at q
  rw [e]
  exact cL ⟨_,rfl,t,_,0,_,rfl,rfl,h1,rfl,q⟩
 ·rw [if_neg e] at q
  have z:decide (V.int (g.as.length:Int)=V.int 0)=false:=by
   refine decide_eq_false fun z=>e ?_
   have z':(g.as.length:Int)=0:=by injection z
   exact aa2 (by omega)
  rw [z]
  have hjs:(adz (aaf ",") (g.as.map S)).length≤100:=by rw [AR,il,aS];omega
  refine bo ⟨_,rfl,t,_,0,_,rfl,rfl,h1,rfl,_,_,rfl,rfl,?_,?_⟩
  ·rw [aS,aax];have:(aaf "(").length=1:=by decide +kernel
   omega
  refine⟨rfl,_,rfl,t,_,1,_,rfl,rfl,h1,rfl,_,t2,g.as.map S,rfl,rfl,.inr (by rw [← dX];exact h2),fact_words hg,_,_,rfl,rfl,?_,_,_,rfl,rfl,?_,?_⟩
  ·rw [strLen_append,aS,aax]
   have:(aaf "(").length=1:=by decide +kernel
   omega
  ·rw [strLen_append,strLen_append,aS,aax]
   have:(aaf "(").length=1:=by decide +kernel
   have:(aaf ")").length=1:=by decide +kernel
   omega
  ·rw [Dz]
   exact q
theorem xU:aC ["facts"] ["facts"] (au jJ):=⟨rfl,rfl,rfl,by decide +kernel,rfl,by decide +kernel,by decide +kernel⟩
theorem xV (F:dn K "facts_text" "facts_text" jJ f fd) (iw:dz P w K mg base "fact_text" 1 ["fact"] (Gm K)):a4 P w K mg base dJ 2 f fd ["facts"] (Kf K):=by
 refine F.ok xU (fun vs H Q E h=>?_) (fun cJ A outer s H vs Q E hr h=>?_)
 ·obtain⟨a,xs,fs,rfl,_⟩:=h
  rfl
 obtain⟨a,xs,fs,rfl,hx,pf,hg,hn,q⟩:=h
 have zl:=aao pf
 have SM:((fs.map aA).map tx).length=xs.length:=by simpa using zl
 have KS:(((fs.map aA).map S).map (·.length)).sum+((fs.map aA).map S).length * (aaf ", ").length≤16777216:=by
  have z:=dk (as:=fs.map aA) (B:=70) fun l hl=>by
   obtain⟨g,hg',rfl⟩:=aay.mp hl
   exact se (hg g hg')
  have e:(aaf ", ").length=2:=by decide +kernel
  rw [Lm9,Lm9,e]
  rw [Lm9] at z
  omega
 rcases hx with hx|hx
 ·refine⟨_,(ak (aG (bx aaC aaO aaP cf aF (aa (bG [] rfl (by kernel_rfl) (aT (pv 0)) (fun _ _ _ _ _=>bE) (fun _ _ _ _ _=>(ao iw (hr.mono (by decide)) rfl (aa (pv 0) ag)))) ag)))),?_⟩
  refine⟨rfl,_,rfl,a,rfl,⟨_,hx⟩,fun D hD=>?_⟩
  refine Kc (K:=K) (xs:=xs) (gs:=(fs.map aA).map tx) SM (iC (by omega)) hD hx (fun i x g H' R hxi XT sm hQ=>?_) (fun H2 s2 hL=>?_)
  ·obtain⟨hi,ex⟩:=aN hxi
   have sv:i<fs.length:=by omega
   have hF:=Fact.sm sm (paired_at pf i sv hi)
   rw [ex] at hF
   obtain⟨NP,eg⟩:=aN XT
   have eg:tx (aA fs[i])=g:=by rw [← eg,aaG,aaG]
   exact⟨_,rfl,x,fs[i],rfl,hF,hg _ (aap sv),by rw [eg];exact hQ _ (ai.refl _)⟩
  ·refine⟨_,D,(fs.map aA).map S,rfl,rfl,.inl (aL.of (by rw [← dX];exact hL)),KS,?_⟩
   rw [jG]
   exact q _ s2
 ·refine⟨_,(ak (aG (bx aaC aaO aaP cf aF (aa (bG [] rfl (by kernel_rfl) (El (pv 0)) (fun _ _ _ _ _=>bE) (fun _ _ _ _ _=>(ao iw (hr.mono (by decide)) rfl (aa (pv 0) ag)))) ag)))),?_⟩
  refine⟨rfl,_,rfl,a,rfl,⟨_,hx⟩,fun D hD=>?_⟩
  refine Ke (K:=K) (xs:=xs) (gs:=(fs.map aA).map tx) SM (iC (by omega)) hD hx (fun i x g H' R hxi XT sm hQ=>?_) (fun H2 s2 hL=>?_)
  ·obtain⟨hi,ex⟩:=aN hxi
   have sv:i<fs.length:=by omega
   have hF:=Fact.sm sm (paired_at pf i sv hi)
   rw [ex] at hF
   obtain⟨NP,eg⟩:=aN XT
   have eg:tx (aA fs[i])=g:=by rw [← eg,aaG,aaG]
   exact⟨_,rfl,x,fs[i],rfl,hF,hg _ (aap sv),by rw [eg];exact hQ _ (ai.refl _)⟩
  ·refine⟨_,D,(fs.map aA).map S,rfl,rfl,.inl (aL.of (by rw [← dX];exact hL)),KS,?_⟩
   rw [jG]
   exact q _ s2
end
end ft
namespace ft
open PySem L2 cR Bk
set_option maxHeartbeats 4000000
section
variable {P:aaS} {w:abg} {K:aae} {mg:Str→Option aai} {base:Heap} {f:aaB} {fd:aa9} {c:Cl}
theorem AV:aC ["word","members"] ["word","members"] (au mw):=⟨rfl,rfl,rfl,by decide +kernel,rfl,by decide +kernel,by decide +kernel⟩
theorem AW (F:dn K "part_text" "part_text" mw f fd):a4 P w K mg base dJ 1 f fd ["word","members"] Gp:=by
 refine F.ok AV (fun vs H Q E h=>?_) (fun cJ A outer s H vs Q E hr h=>?_)
 ·obtain⟨wd,m,rfl,_⟩:=h
  rfl
 obtain⟨wd,m,rfl,hw,hm,q⟩:=h
 refine⟨_,(ah (aX (aE cg (pv 1) aF (aM _))
 (ak (aG aF))
 aI)
 (ak (aG (aw aQ (aw aQ (pv 0) aF) (pv 1))))),?_⟩
 refine⟨_,rfl,rfl,_,rfl,?_⟩
 have ed:decide (tx m=V.str (aaf ""))=decide (m=[]):=by
  have e:V.str (aaf "")=tx []:=by decide +kernel
  rw [e,zZ]
 rw [ed]
 by_cases h0:m=[]
 ·rw [decide_eq_true h0]
  rw [if_pos h0] at q
  exact cL q
 ·rw [decide_eq_false h0]
  rw [if_neg h0] at q
  refine bo ?_
  have e1:(aaf " ")=S [32]:=by decide +kernel
  have e2:(aaf " ").length=1:=by decide +kernel
  refine⟨_,rfl,_,_,rfl,rfl,(by rw [aS,e2,aax];omega),_,rfl,_,_,rfl,rfl,(by simp only [strLen_append,aS,e2];rw [aax];omega),?_⟩
  rw [e1,di,di,aaT]
  exact q
theorem AX:aC ["self"] ["self"] (au lZ):=⟨rfl,rfl,rfl,by decide +kernel,rfl,by decide +kernel,by decide +kernel⟩
theorem AY (F:dn K "word" "Same.word" lZ f fd):a4 P w K mg base dJ 2 f fd ["self"] (nj true):=by
 refine F.ok AX (fun vs H Q E h=>?_) (fun cJ A outer s H vs Q E hr h=>?_)
 ·obtain⟨p,rfl,_⟩:=h
  rfl
 obtain⟨p,rfl,q⟩:=h
 exact⟨_,(ak (aG aF)),q⟩
theorem wm:aC ["self"] ["self"] (au iH):=⟨rfl,rfl,rfl,by decide +kernel,rfl,by decide +kernel,by decide +kernel⟩
theorem wo (F:dn K "word" "Unlike.word" iH f fd):a4 P w K mg base dJ 2 f fd ["self"] (nj false):=by
 refine F.ok wm (fun vs H Q E h=>?_) (fun cJ A outer s H vs Q E hr h=>?_)
 ·obtain⟨p,rfl,_⟩:=h
  rfl
 obtain⟨p,rfl,q⟩:=h
 exact⟨_,(ak (aG aF)),q⟩
theorem gx:aC ["rule","looks","pairs","parts"] ["rule"] (au mv):=⟨rfl,rfl,rfl,by decide +kernel,rfl,by decide +kernel,by decide +kernel⟩
theorem AZ (F:dn K "rule_text" "rule_text" mv f fd) (T:z7 K c.rule) (Ts:xw K c.same) (Tu:xw K c.unlike) (dZ:dz P w K mg base "part_text" 1 ["word","members"] Gp) (fh:dz P w K mg base "facts_text" 2 ["facts"] (Kf K)) (XU:∀b,Met P w K mg base (c.look b) "word" 2 ["self"] (nj b)):a4 P w K mg base dJ 3 f fd ["rule"] (Gq K c):=by
 refine F.ok gx (fun vs H Q E h=>?_) (fun cJ A outer s H vs Q E hr h=>?_)
 ·obtain⟨v,H0,r,rfl,_⟩:=h
  rfl
 obtain⟨v,H0,r,rfl,hR,hT,q⟩:=h
 refine⟨_,(@ah _ _ _ _ _ (@ie _ (1) _ _ _ _ _ _ _ _ _ _ _ _ _ [] gx.nd rfl (aaM rfl) rfl (by kernel_rfl) (@aT _ _ _ _ (@pe_fld _ _ _ _ _ (pv 0) rfl)) (fun _ _ _ _ _=>(@bE _)) (fun _ _ _ _ _=>(id (α:=PE _ _ (UQ K "str" (rJoin K) _ _)) (bx aaC aaO aaP cf aF (aa (aV (aa (zW (K:=K) rfl (pv 0) rfl) (aa (Hk (P:=P) (w:=w) (K:=K) (mg:=mg) (base:=base) rfl rfl rfl rfl rfl (pv 0) (k:=2) (hr.mono (by decide))) (aa (zW (K:=K) rfl (pv 0) rfl) ag)))) ag)))) (by rfl) (by intro _;rfl) (by first|exact .inl rfl|exact .inr rfl|assumption)) (@ah _ _ _ _ _ (@ie _ (2) _ _ _ _ _ _ _ _ _ _ _ _ _ [] gx.nd rfl (aaM rfl) rfl (by kernel_rfl) (@aT _ _ _ _ (@pe_fld _ _ _ _ _ (pv 0) rfl)) (fun _ _ _ _ _=>(@bE _)) (fun _ _ _ _ _=>(id (α:=PE _ _ (UQ K "str" (rJoin K) _ _)) (bx aaC aaO aaP cf aF (aa (pv 0) ag)))) (by rfl) (by intro _;rfl) (by first|exact .inl rfl|exact .inr rfl|assumption)) (@ah _ _ _ _ _ (@ay _ _ (3) _ _ _ _ gx.nd rfl (aaM rfl) (@aV _ _ _ _ (@aa _ _ _ _ _ (@ao _ _ _ _ _ _ _ _ _ _ dZ (hr.mono (by decide)) rfl (@aa _ _ _ _ _ (@aF _ _ _ _) (@aa _ _ _ _ _ (@ao _ _ _ _ _ _ _ _ _ _ fh (hr.mono (by decide)) rfl (@aa _ _ _ _ _ (@pe_fld _ _ _ _ _ (pv 0) rfl) (@ag _) (by rfl)) (by decide) (by rfl) (by rfl)) (@ag _) (by rfl)) (by rfl)) (by decide) (by rfl) (by rfl)) (@aa _ _ _ _ _ (@ao _ _ _ _ _ _ _ _ _ _ dZ (hr.mono (by decide)) rfl (@aa _ _ _ _ _ (@aF _ _ _ _) (@aa _ _ _ _ _ (@ao _ _ _ _ _ _ _ _ _ _ fh (hr.mono (by decide)) rfl (@aa _ _ _ _ _ (@pe_fld _ _ _ _ _ (pv 0) rfl) (@ag _) (by rfl)) (by decide) (by rfl) (by rfl)) (@ag _) (by rfl)) (by rfl)) (by decide) (by rfl) (by rfl)) (@aa _ _ _ _ _ (@ao _ _ _ _ _ _ _ _ _ _ dZ (hr.mono (by decide)) rfl (@aa _ _ _ _ _ (@aF _ _ _ _) (@aa _ _ _ _ _ (@bx _ _ _ _ _ _ _ _ _ _ _ _ aaC aaO aaP (@cf _) (@aF _ _ _ _) (@aa _ _ _ _ _ (pv 1) (@ag _) (by rfl)) (by rfl) (by rfl) (by rfl) (by rfl) (by rfl)) (@ag _) (by rfl)) (by rfl)) (by decide) (by rfl) (by rfl)) (@aa _ _ _ _ _ (@ao _ _ _ _ _ _ _ _ _ _ dZ (hr.mono (by decide)) rfl (@aa _ _ _ _ _ (@aF _ _ _ _) (@aa _ _ _ _ _ (@ao _ _ _ _ _ _ _ _ _ _ fh (hr.mono (by decide)) rfl (@aa _ _ _ _ _ (@pe_fld _ _ _ _ _ (pv 0) rfl) (@ag _) (by rfl)) (by decide) (by rfl) (by rfl)) (@ag _) (by rfl)) (by rfl)) (by decide) (by rfl) (by rfl)) (@aa _ _ _ _ _ (@ao _ _ _ _ _ _ _ _ _ _ dZ (hr.mono (by decide)) rfl (@aa _ _ _ _ _ (@aF _ _ _ _) (@aa _ _ _ _ _ (@bx _ _ _ _ _ _ _ _ _ _ _ _ aaC aaO aaP (@cf _) (@aF _ _ _ _) (@aa _ _ _ _ _ (pv 2) (@ag _) (by rfl)) (by rfl) (by rfl) (by rfl) (by rfl) (by rfl)) (@ag _) (by rfl)) (by rfl)) (by decide) (by rfl) (by rfl)) (@ag _) (by rfl)) (by rfl)) (by rfl)) (by rfl)) (by rfl))) (by rfl) (by first|exact .inl rfl|exact .inr rfl|assumption)) (@ak _ _ _ (@aG _ _ _ _ (@aw _ _ _ _ _ _ _ _ (@aQ _) (@aw _ _ _ _ _ _ _ _ (@aQ _) (@aw _ _ _ _ _ _ _ _ (@aQ _) (@aF _ _ _ _) (@pe_fld _ _ _ _ _ (pv 0) rfl)) (@aF _ _ _ _)) (@bx _ _ _ _ _ _ _ _ _ _ _ _ aaC aaO aaP (@cf _) (@aF _ _ _ _) (@aa _ _ _ _ _ (@bG _ _ _ _ _ _ _ _ _ _ _ [] rfl (by kernel_rfl) (@aT _ _ _ _ (pv 3)) (fun _ _ _ _ _=>(@jB _ _ _ (@aE _ _ _ _ _ _ _ _ (@ib _) (pv 0) (@aF _ _ _ _) (aM _)))) (fun _ _ _ _ _=>(pv 0)) (by intro _;rfl)) (@ag _) (by rfl)) (by rfl) (by rfl) (by rfl) (by rfl) (by rfl)))))))),?_⟩
 obtain⟨a,dx,fs,rfl,na,ha,RF⟩:=id hR
 obtain⟨vl,el,ll,ul,rfl,nl,hl,pl⟩:=RF.aO
 obtain⟨vg,eg,lg,ug,rfl,ng,hg,pg⟩:=RF.given
 obtain⟨vt,et,lt,ut,rfl,nt,ht,pt⟩:=RF.told
 obtain⟨va,ea,la,ua,rfl,nta,hta,pta⟩:=RF.taken
 obtain⟨vk,ek,lk,uk,rfl,nk,hk,pk⟩:=RF.kept
 have etl:=RF.title
 have few:=hT.few
 have zl:=aao pl
 have zt:=aao pt
 have v9:∀b,Ec K (c.look b)∧da K (c.look b) "left"∧da K (c.look b) "right":=fun b=>by
  cases b with
  | true=>exact⟨Ts.cl,Ts.nL,Ts.nR⟩
  | false=>exact⟨Tu.cl,Tu.nL,Tu.nR⟩
 refine⟨_,rfl,a,c.rule,dx,fs,_,rfl,ha,T.cl,T.n4,el,ll,rfl,⟨_,aL.of hl⟩,fun D hD=>?_⟩
 refine cS (K:=K) (xs:=ul) (r.aO.map bF) (fun _ _ b y=>y=tx b) (fun _ _ _ _ _ _ h=>h) (fun _ _ _ _ _ _ h=>h) (iC (by omega)) hD (aL.of hl) (by rw [Lm9];exact zl) (fun i y b H' R hy hb sm hQ=>?_) (fun H1 ys s1 hL po=>?_)
 ·obtain⟨hi,ey⟩:=aN hy
  obtain⟨dw,eb⟩:=aN hb
  rw [Lm9] at dw
  rw [aaG] at eb
  obtain⟨b',Q2,fb,e',nb,hb',f1,f2,f3,f4⟩:=paired_at pl i dw hi
  rw [ey] at e'
  subst e'
  have nD:=hT.l _ (aap dw)
  obtain⟨C1,C2,C3⟩:=v9 r.aO[i].same
  have Q5:=sm _ _ hb'
  generalize r.aO[i]=kk at Q5 C1 C2 C3 f1 f2 eb nD
  refine⟨rfl,_,rfl,b',_,Q2,fb,_,rfl,Q5,C1,C2,f1,_,rfl,b',_,Q2,fb,_,_,rfl,Q5,f4,XU _,b',rfl,_,rfl,b',_,Q2,fb,_,rfl,Q5,C1,C3,f2,(by show 3≤aaj;decide),fun l2 i8=>?_⟩
  have e1:(aaf " ").length=1:=by decide +kernel
  have e0:(aaf " ")=S [32]:=by decide +kernel
  have h1:=dm nD.1
  have h2:=dm nD.2
  have h3:(gK kk.same).length≤6:=by cases kk.same <;> decide
  refine⟨_,l2,[kk.l,gK kk.same,kk.r].map S,rfl,rfl,.inl (aL.of ae),?_,?_⟩
  ·simp only [aa5,abJ,acR,adA,aar,abb,aS,e1]
   omega
  ·rw [e0,qk]
   refine hQ _ _ (aj i8 _) ?_
   rw [← eb]
   rfl
 rw [cq po] at hL
 have Ao:=s1 _ _ ht
 refine⟨_,rfl,a,c.rule,dx,fs,_,rfl,s1 _ _ ha,T.cl,T.n6,et,lt,rfl,⟨_,aL.of Ao⟩,fun D2 kO=>?_⟩
 refine cS (K:=K) (xs:=ut) (r.tell.map bL) (fun _ _ b y=>y=tx b) (fun _ _ _ _ _ _ h=>h) (fun _ _ _ _ _ _ h=>h) (iC (by omega)) kO (aL.of Ao) (by rw [Lm9];exact zt) (fun i y b H' R hy hb sm hQ=>?_) (fun H2 ys2 s2 vP XW=>?_)
 ·obtain⟨hi,ey⟩:=aN hy
  obtain⟨dw,eb⟩:=aN hb
  rw [Lm9] at dw
  rw [aaG] at eb
  obtain⟨t,e',Cb⟩:=paired_at pt i dw hi
  rw [ey] at e'
  subst e'
  have nD:=hT.p _ (aap dw)
  have Cb:=Cb.same (ai.trans s1 sm)
  generalize r.tell[i]=kk at Cb eb nD
  have e1:(aaf " = ").length=3:=by decide +kernel
  have e0:(aaf " = ")=S [32,61,32]:=by decide +kernel
  have h1:=dm nD.1
  have h2:=dm nD.2
  refine⟨rfl,_,rfl,_,t,[kk.1,kk.2].map S,rfl,rfl,.inr Cb,?_,?_⟩
  ·simp only [aa5,abJ,acR,adA,aar,abb,aS,e1]
   omega
  ·rw [e0,qk]
   refine hQ _ _ (ai.refl _) ?_
   rw [← eb]
   rfl
 rw [cq XW] at vP
 have xj:=ai.trans s1 s2
 have fF:∀g∈r.take++(r.keep++r.put),FN g:=fun g hg=>(hT.f g hg).fn
 have oP:=hT.EV
 have w1:V.str (aaf "take")=tx bJ:=by decide +kernel
 have w2:V.str (aaf "keep")=tx bR:=by decide +kernel
 have w3:V.str (aaf "look")=tx bN:=by decide +kernel
 have w4:V.str (aaf "put")=tx dA:=by decide +kernel
 have w5:V.str (aaf "tell")=tx cn:=by decide +kernel
 refine⟨_,rfl,a,c.rule,dx,fs,_,rfl,xj _ _ ha,T.cl,T.n2,ea,la,ua,r.take,rfl,.inl (aL.of (xj _ _ hta)),ax pta (fun _ _ _=>Fact.sm xj),(fun g hg=>fF g (aas _ hg)),(by omega),fun H3 s3=>?_⟩
 have bd:∀x∈dY r,x.2.length≤2100:=fun x hx=>(oP x hx).2
 have b1:(bA (r.take.map aA)).length≤2100:=bd (bJ,bA (r.take.map aA)) (by unfold dY;simp)
 have b2:(bA (r.keep.map aA)).length≤2100:=bd (bR,bA (r.keep.map aA)) (by unfold dY;simp)
 have b3:(bA (r.aO.map bF)).length≤2100:=bd (bN,bA (r.aO.map bF)) (by unfold dY;simp)
 have b4:(bA (r.put.map aA)).length≤2100:=bd (dA,bA (r.put.map aA)) (by unfold dY;simp)
 have b5:(bA (r.tell.map bL)).length≤2100:=bd (cn,bA (r.tell.map bL)) (by unfold dY;simp)
 have ec:(aaf ", ").length=2:=by decide +kernel
 refine⟨bJ,bA (r.take.map aA),(by rw [w1];rfl),by decide,(by omega),?_⟩
 have Lv:=ai.trans xj s3
 refine⟨_,rfl,a,c.rule,dx,fs,_,rfl,Lv _ _ ha,T.cl,T.n3,ek,lk,uk,r.keep,rfl,.inl (aL.of (Lv _ _ hk)),ax pk (fun _ _ _=>Fact.sm Lv),(fun g hg=>fF g (aah _ (aas _ hg))),(by omega),fun H4 s4=>?_⟩
 refine⟨bR,bA (r.keep.map aA),(by rw [w2];rfl),by decide,(by omega),?_⟩
 have Lw:=ai.trans Lv s4
 have Iv:=ai.trans s3 s4
 have l1:=dk (as:=r.aO.map bF) (B:=32) (fun x hx=>by
  obtain⟨k,hk,rfl⟩:=aay.mp hx
  exact uO (hT.l k hk))
 have l2:=dk (as:=r.tell.map bL) (B:=32) (fun x hx=>by
  obtain⟨k,hk,rfl⟩:=aay.mp hx
  exact uP (hT.p k hk))
 rw [Lm9] at l1 l2
 refine⟨rfl,_,rfl,_,D,(r.aO.map bF).map S,rfl,rfl,.inl (aL.of (by rw [← dX];exact Iv _ _ (s2 _ _ hL))),(by rw [Lm9,Lm9,ec];omega),?_⟩
 rw [jG]
 refine⟨bN,bA (r.aO.map bF),(by rw [w3];rfl),by decide,(by omega),?_⟩
 refine⟨_,rfl,a,c.rule,dx,fs,_,rfl,Lw _ _ ha,T.cl,T.n5,eg,lg,ug,r.put,rfl,.inl (aL.of (Lw _ _ hg)),ax pg (fun _ _ _=>Fact.sm Lw),(fun g hg=>fF g (aah _ (aah _ hg))),(by omega),fun H5 s5=>?_⟩
 refine⟨dA,bA (r.put.map aA),(by rw [w4];rfl),by decide,(by omega),?_⟩
 have Of:=ai.trans Lw s5
 have Vo:=ai.trans Iv s5
 refine⟨rfl,_,rfl,_,D2,(r.tell.map bL).map S,rfl,rfl,.inl (aL.of (by rw [← dX];exact Vo _ _ vP)),(by rw [Lm9,Lm9,ec];omega),?_⟩
 rw [jG]
 refine⟨cn,bA (r.tell.map bL),(by rw [w5];rfl),by decide,(by omega),?_⟩
 refine⟨(by show 5≤aaj;decide),fun lp E9=>?_⟩
 have s6:=aj E9 (.lst (((dY r).map nP).map tx))
 have MN:=ae (H:=H5) (a:=lp) (o:=.lst (((dY r).map nP).map tx))
 have Og:=ai.trans Of s6
 have er:=hT.rows
 have el5:((dY r).map nP).length=5:=rfl
 have XX:∀x∈(dY r).map nP,x.length≤2200:=fun x hx=>by
  obtain⟨z,hz,rfl⟩:=aay.mp hx
  have:=oP z hz
  unfold nP
  split
  ·simp
  ·simp only [aag,aar]
   omega
 show yE 3 (V.ref lp) _ (upd H5 lp (.lst (((dY r).map nP).map tx))) _
 generalize upd H5 lp (.lst (((dY r).map nP).map tx))=H6 at s6 MN Og ⊢
 generalize (dY r).map nP=ws at MN er el5 XX
 have f1:(aaf "rule ")=S (dc++[32]):=by decide +kernel
 have f2:(aaf ": ")=S [58,32]:=by decide +kernel
 have f3:(aaf "; ")=S [59,32]:=by decide +kernel
 have f4:(aaf "; ").length=2:=by decide +kernel
 have Cb:=dm (cu hT.t)
 refine⟨_,rfl,a,c.rule,dx,fs,_,rfl,Og _ _ ha,T.cl,T.n1,etl,_,_,rfl,rfl,(by rw [f1,aS,aS,aax];show(dc++[32]).length+_≤_;have:(dc++[32]).length=5:=rfl;omega),?_⟩
 refine⟨_,_,rfl,rfl,(by rw [f1,f2,di,aS,aS,aax,aag];have:(dc++[32]).length=5:=rfl;show _+2≤_;omega),?_⟩
 rw [f1,f2,di,di]
 refine⟨rfl,_,rfl,lp,rfl,⟨_,aL.of MN⟩,fun D3 Q4=>?_⟩
 refine gF (K:=K) (xs:=ws.map tx) ws (fun x=>!decide (x=[])) id (fun _ _ b y=>y=tx b) (fun _ _ _ _ _ _ h=>h) (fun _ _ _ _ _ _ h=>h) (iC (by rw [Lm9];omega)) Q4 (aL.of MN) (by rw [Lm9]) (fun i x b H' R hx hb sm hQ=>?_) (fun i x b H' R hx hb Vp sm hQ=>?_) (fun H7 ys7 s7 XY po7=>?_)
 ·obtain⟨hi,ex⟩:=aN hx
  obtain⟨dw,eb⟩:=aN hb
  rw [aaG,eb] at ex
  subst ex
  refine⟨_,rfl,rfl,?_⟩
  have ed:(!decide (tx b=V.str (aaf ""))) = !decide (b=[]):=by
   have e:V.str (aaf "")=tx []:=by decide +kernel
   rw [e,zZ]
  rw [ed]
  exact⟨_,rfl,hQ _ (ai.refl _)⟩
 ·obtain⟨hi,ex⟩:=aN hx
  obtain⟨dw,eb⟩:=aN hb
  rw [aaG,eb] at ex
  subst ex
  exact⟨_,rfl,hQ _ _ (ai.refl _) rfl⟩
 rw [acr] at po7
 rw [cq po7] at XY
 have hpl:(ws.filter fun x=>!decide (x=[])).length≤5:=abj (abK _ _) (by omega)
 have KS:=dk (as:=ws.filter fun x=>!decide (x=[])) (B:=2200) (fun x hx=>XX x (abf.mp hx).1)
 have RR:=jl (ws.filter fun x=>!decide (x=[])) (fun x hx=>XX x (abf.mp hx).1)
 rw [er] at XY hpl KS RR
 refine⟨_,D3,(cN r).map S,rfl,rfl,.inl (aL.of (by rw [← dX];exact XY)),(by rw [Lm9,f4];omega),?_⟩
 rw [f3,qk]
 refine⟨_,_,rfl,rfl,?_,?_⟩
 ·rw [aS,aS,aax,aag,aag]
  have:(dc++[32]).length=5:=rfl
  have e2:([58,32]:Cs).length=2:=rfl
  omega
 ·rw [di]
  have q:=q _ (ai.trans Og s7)
  have e:((dc++[32]++r.title)++[58,32])++fV [59,32] (cN r)=aU r:=by
   unfold aU
   simp
  rw [e]
  exact q
end
end ft
namespace ft
open PySem L2 cR Bk
set_option maxHeartbeats 4000000
section
variable {P:aaS} {w:abg} {K:aae} {mg:Str→Option aai} {base:Heap} {f:aaB} {fd:aa9} {c:Cl}
theorem qw:aC ["kind","word"] ["kind"] (au mr):=⟨rfl,rfl,rfl,by decide +kernel,rfl,by decide +kernel,by decide +kernel⟩
theorem A0 (F:dn K "kind_text" "kind_text" mr f fd) (KU:mg "str"=none):a4 P w K mg base dJ 1 f fd ["kind"] (uK K):=by
 refine F.ok qw (fun vs H Q E h=>?_) (fun cJ A outer s H vs Q E hr h=>?_)
 ·obtain⟨v,k,rfl,_⟩:=h
  rfl
 obtain⟨v,⟨n,ct,b⟩,rfl,⟨t,rfl,ht⟩,hn,hc,q⟩:=h
 have hc:ct≤4:=hc
 have hn:n.length≤12:=hn
 have ht:bT K H t [tx n,.int ct,.bl b]:=ht
 refine⟨_,(ah (ay (i:=1) qw.nd rfl (aaM rfl) (IC (cW (aq ar (pv 0) af (fun _ _=>rfl))) aF aF))
 (ak (aG (bx aaC aaO aaP cf aF (aa (aV (aa (pv 1) (aa (aq ar (pv 0) af (fun _ _=>rfl)) (aa (cX pJ rfl KU PyProof.Rows.Boot.«str» (aa (aq ar (pv 0) af (fun _ _=>rfl)) ag)) ag)))) ag))))),?_⟩
 have go:∀(W:Cs),W=(if b=true then br else bq)→∀l,H l=none→Q (V.str (adz (aaf " ") [S W,S n,aaf (toString (ct:Int))])) (upd H l (.lst [tx W,tx n,V.str (aaf (toString (ct:Int)))])):=by
  intro W eW l hl
  have e0:(aaf " ")=⟨#[32]⟩:=by decide +kernel
  rw [Aa hc,e0]
  have e:=il 32 [W,n,[48+ct]]
  have e2:fS 32 [W,n,[48+ct]]=az ⟨n,ct,b⟩:=by rw [eW];rfl
  rw [e2] at e
  have e3:([W,n,[48+ct]]:List Cs).map S=[S W,S n,S [48+ct]]:=rfl
  rw [e3] at e
  rw [e]
  exact q _ (aj hl _)
 have szj:∀(W:Cs),W.length=7→(([S W,S n,aaf (toString (ct:Int))]:List Str).map (·.length)).sum+([S W,S n,aaf (toString (ct:Int))]:List Str).length * (aaf " ").length≤16777216:=by
  intro W hW
  rw [Aa hc]
  have e1:(aaf " ").length=1:=by decide +kernel
  simp only [aa5,abJ,acR,adA,aS,aar,abb,hW,e1]
  omega
 refine⟨_,rfl,t,_,2,_,rfl,rfl,ht,rfl,_,rfl,?_⟩
 cases b with
 | true =>
  refine cL ?_
  refine⟨rfl,_,rfl,_,rfl,t,_,0,_,rfl,rfl,ht,rfl,_,rfl,t,_,1,_,rfl,rfl,ht,rfl,_,rfl,Ab hc,(by show 3≤aaj;decide),fun l hl=>?_⟩
  refine⟨_,l,[S br,S n,aaf (toString (ct:Int))],rfl,rfl,.inl (aL.of ?_),szj br rfl,go br rfl l hl⟩
  have e:(aaf "lasting")=S br:=by decide +kernel
  rw [e]
  exact ae
 | false =>
  refine bo ?_
  refine⟨rfl,_,rfl,_,rfl,t,_,0,_,rfl,rfl,ht,rfl,_,rfl,t,_,1,_,rfl,rfl,ht,rfl,_,rfl,Ab hc,(by show 3≤aaj;decide),fun l hl=>?_⟩
  refine⟨_,l,[S bq,S n,aaf (toString (ct:Int))],rfl,rfl,.inl (aL.of ?_),szj bq rfl,go bq rfl l hl⟩
  have e:(aaf "passing")=S bq:=by decide +kernel
  rw [e]
  exact ae
theorem qx:aC ["book","lines"] ["book"] (au mq):=⟨rfl,rfl,rfl,by decide +kernel,rfl,by decide +kernel,by decide +kernel⟩
theorem A1 (F:dn K "book_text" "book_text" mq f fd) (T:Pw K c.book) (mM:dz P w K mg base "kind_text" 1 ["kind"] (uK K)) (mO:dz P w K mg base "rule_text" 3 ["rule"] (Gq K c)):a4 P w K mg base dJ 4 f fd ["book"] (C8 K c):=by
 refine F.ok qx (fun vs H Q E h=>?_) (fun cJ A outer s H vs Q E hr h=>?_)
 ·obtain⟨v,H0,ks,rs,rfl,_⟩:=h
  rfl
 obtain⟨v,H0,ks,rs,rfl,⟨x,dx,fs,rfl,hx0,hx,⟨v1,e1,lk,kvs,rfl,Lu,hk,pk⟩,⟨v2,e2,lr,rK,rfl,HE,Q6,pr⟩⟩,hok,hfew,Lx,Tp,q⟩:=h
 refine⟨_,(@ah _ _ _ _ _ (@ie _ (1) _ _ _ _ _ _ _ _ _ _ _ _ _ [] qx.nd rfl (aaM rfl) rfl (by kernel_rfl) (@aT _ _ _ _ (@pe_fld _ _ _ _ _ (pv 0) rfl)) (fun _ _ _ _ _=>(@bE _)) (fun _ _ _ _ _=>(@ao _ _ _ _ _ _ _ _ _ _ mM (hr.mono (by decide)) rfl (@aa _ _ _ _ _ (pv 0) (@ag _) (by rfl)) (by decide) (by rfl) (by rfl))) (by rfl) (by intro _;rfl) (by first|exact .inl rfl|exact .inr rfl|assumption)) (@ak _ _ _ (@aG _ _ _ _ (@bx _ _ _ _ _ _ _ _ _ _ _ _ aaC aaO aaP (@cf _) (@aF _ _ _ _) (@aa _ _ _ _ _ (@aw _ _ _ _ _ _ _ _ (@cF _) (pv 1) (@bG _ _ _ _ _ _ _ _ _ _ _ [] rfl (by kernel_rfl) (@aT _ _ _ _ (@pe_fld _ _ _ _ _ (pv 0) rfl)) (fun _ _ _ _ _=>(@bE _)) (fun _ _ _ _ _=>(@ao _ _ _ _ _ _ _ _ _ _ mO (hr.mono (by decide)) rfl (@aa _ _ _ _ _ (pv 0) (@ag _) (by rfl)) (by decide) (by rfl) (by rfl))) (by intro _;rfl))) (@ag _) (by rfl)) (by rfl) (by rfl) (by rfl) (by rfl) (by rfl))))),?_⟩
 have zk:=aao pk
 have zr:=aao pr
 refine⟨_,rfl,x,c.book,dx,fs,_,rfl,hx,T.cl,T.n1,e1,lk,rfl,⟨_,aL.of hk⟩,fun D hD=>?_⟩
 refine cS (K:=K) (xs:=kvs) (ks.map az) (fun _ _ b y=>y=tx b) (fun _ _ _ _ _ _ h=>h) (fun _ _ _ _ _ _ h=>h) (iC (by omega)) hD (aL.of hk) (by rw [Lm9];exact zk) (fun i y b H' R hy hb sm hQ=>?_) (fun H1 ys s1 hL po=>?_)
 ·obtain⟨hi,ey⟩:=aN hy
  obtain⟨dw,eb⟩:=aN hb
  rw [Lm9] at dw
  rw [aaG] at eb
  have hK:=paired_at pk i dw hi
  rw [ey] at hK
  have h2:=hok _ (aap dw)
  exact⟨_,rfl,y,_,rfl,hK.keep (H0:=H0) (Kp.same sm),h2.1,h2.2,fun H2 s2=>hQ _ _ s2 (by rw [← eb])⟩
 rw [cq po] at hL
 refine⟨rfl,_,rfl,_,rfl,x,c.book,dx,fs,_,rfl,s1 _ _ hx,T.cl,T.n2,e2,lr,rfl,⟨_,aL.of (s1 _ _ Q6)⟩,fun D2 kO=>?_⟩
 refine cS (K:=K) (xs:=rK) (rs.map aU) (fun _ _ b y=>y=tx b) (fun _ _ _ _ _ _ h=>h) (fun _ _ _ _ _ _ h=>h) (iC (by omega)) kO (aL.of (s1 _ _ Q6)) (by rw [Lm9];exact zr) (fun i y b H' R hy hb sm hQ=>?_) (fun H2 ys2 s2 vP XW=>?_)
 ·obtain⟨hi,ey⟩:=aN hy
  obtain⟨dw,eb⟩:=aN hb
  rw [Lm9] at dw
  rw [aaG] at eb
  have hK:=paired_at pr i dw hi
  rw [ey] at hK
  exact⟨_,rfl,y,H0,_,rfl,hK.keep (Kp.same (ai.trans s1 sm)),Lx _ (aap dw),fun H3 s3=>hQ _ _ s3 (by rw [← eb])⟩
 rw [cq XW] at vP
 refine⟨D,D2,_,_,rfl,rfl,s2 _ _ hL,vP,(by rw [Lm9,Lm9,Lm9,Lm9];exact sz (by omega)),fun p hp=>?_⟩
 rw [← aat]
 have hle:∀a∈ks.map az++rs.map aU,a.length≤11100:=fun a ha=>by
  rcases aaq.mp ha with ha|ha
  ·obtain⟨k,hk,rfl⟩:=aay.mp ha
   have:=qg (hok k hk).1
   omega
  ·obtain⟨r,hr,rfl⟩:=aay.mp ha
   exact(Lx r hr).len
 have hz:(ks.map az++rs.map aU).length≤200:=by
  rw [aag,Lm9,Lm9]
  omega
 have z:=dk (as:=ks.map az++rs.map aU) (B:=11100) hle
 generalize ks.map az++rs.map aU=ls at z hz q
 refine⟨_,p,ls.map S,rfl,rfl,.inl (aL.of ?_),?_,?_⟩
 ·rw [ae]
  simp only [abz,aeP]
 ·have e1:(aaf "\n").length=1:=by decide +kernel
  rw [e1,Lm9]
  omega
 ·have e0:(aaf "\n")=⟨#[10]⟩:=by decide +kernel
  rw [e0,il,qe]
  exact q _ (ai.trans s1 (ai.trans s2 (aj hp _)))
end
end ft
namespace ft
open PySem L2 cR Bk
set_option maxHeartbeats 4000000
section
variable {P:aaS} {w:abg} {K:aae} {mg:Str→Option aai} {base:Heap} {f:aaB} {fd:aa9} {C1 C2:aaB}
theorem f9 {α:Type} {xs:List α} {v:Int} (h:1≤xs.length):∃(j:Nat) (hj:j<xs.length),lu xs (v % (xs.length:Int))=some xs[j]:=by
 have hp:(0:Int)<(xs.length:Int):=by omega
 have md:=mid (a:=v) hp
 refine⟨(v % (xs.length:Int)).toNat,by omega,?_⟩
 have z:=bz (xs:=xs) (j:=(v % (xs.length:Int)).toNat) (v:=xs[(v % (xs.length:Int)).toNat]'(by omega)) (by rw [Ge9])
 rw [show(((v % (xs.length:Int)).toNat:Nat):Int)=v % (xs.length:Int) by omega] at z
 exact z
theorem dG:aC ["_law_kinds_here","_law_names_here","_law_cell","_law_number","_law_kind","_law_args","_law_k"] ["_law_kinds_here","_law_names_here","_law_cell"] (au mx):=⟨rfl,rfl,rfl,by decide +kernel,rfl,by decide +kernel,by decide +kernel⟩
theorem A2 (F:dn K "_law_fact" "_law_fact" mx f fd) (a8:dz P w K mg base "_law_mix" 1 ["_law_cell","_law_k"] tD) (aY:mg "len"=none) (bY:mg "range"=none) (j5:mg "tuple"=none):a4 P w K mg base dJ 2 f fd ["_law_kinds_here","_law_names_here","_law_cell"] (Gs K):=by
 refine F.ok dG (fun vs H Q E h=>?_) (fun cJ A outer s H vs Q E hr h=>?_)
 ·obtain⟨lk,ln,c,ks,ns,rfl,_⟩:=h
  rfl
 obtain⟨lk,ln,c,ks,ns,rfl,⟨kvs,hk,pk⟩,h1k,XZ,X0,Ly,Jl,GV,q⟩:=h
 have zk:=aao pk
 refine⟨_,(ah (ay (i:=3) dG.nd rfl (aaM rfl) (ao a8 (hr.mono (by decide)) rfl (aa (pv 2) (aa af ag))))
 (ah (ay (i:=4) dG.nd rfl (aaM rfl) (aq aJ (pv 0) (aw bt (pv 3) (aK aB rfl aY aaF (aa (pv 0) ag))) (fun _ _=>rfl)))
 (ah (ay (i:=3) dG.nd rfl (aaM rfl) (aw cK (pv 3) af))
 (ah (ay (i:=5) dG.nd rfl (aaM rfl) (aV ag))
 (ah (b8 aa0 rfl (cC rfl bY (aa (aq ar (pv 4) af (fun _ _=>rfl)) ag)) (bw (i:=6) dG.nd rfl (aaM rfl))
 (ah (bh (bx aaD aaI aaL bg (pv 5) (aa (aq aJ (pv 1) (aw bt (pv 3) (aK aB rfl aY aaF (aa (pv 1) ag))) (fun _ _=>rfl)) ag)))
 (ak (ay (i:=3) dG.nd rfl (aaM rfl) (aw cE (aw cK (pv 3) (aK aB rfl aY aaF (aa (pv 1) ag))) (aw jx af (pv 6)))))))
 (ak (aG (bD (aa (aq ar (pv 4) af (fun _ _=>rfl)) (aa (cX fJ rfl j5 PyProof.Rows.Boot.«tuple» (aa (pv 5) ag)) ag)))))))))),?_⟩
 refine⟨_,rfl,c,2,rfl,by decide,by decide,fun v H1 s1 v0=>?_⟩
 obtain⟨j,hj,ej⟩:=f9 (xs:=kvs) (v:=v) (by omega)
 refine⟨_,rfl,_,rfl,_,rfl,lk,_,rfl,.inl (aL.of (s1 _ _ hk)),_,_,rfl,rfl,(by show(0:Int)<(kvs.length:Int);omega),lk,_,_,_,rfl,rfl,aL.of (s1 _ _ hk),ej,?_⟩
 have X1:j<ks.length:=by omega
 obtain⟨tk,et,ht⟩:=paired_at pk j X1 hj
 rw [et]
 have Ao:=ht.same s1
 have hkj:=X0 _ (aap X1)
 refine⟨_,rfl,_,_,rfl,rfl,⟨by decide,by decide⟩,?_⟩
 refine⟨(by show 0≤aaj;decide),fun l hl=>?_⟩
 have s2:ai H1 (upd H1 l (.lst [])):=aj hl _
 have sA:=ai.trans s1 s2
 have hlH:H l=none:=s1.free hl
 have hL0:=ae (H:=H1) (a:=l) (o:=.lst [])
 refine⟨_,rfl,tk,_,1,_,rfl,rfl,Ao.same s2,rfl,?_⟩
 have hc4:=hkj
 refine⟨(ks[j].c:Int),rfl,by omega,by omega,?_⟩
 have en:((ks[j].c:Nat):Int).toNat=ks[j].c:=abr _
 rw [en]
 have MO:upd H1 l (.lst []) ln=some (.lst (ns.map tx)):=sA _ _ Ly
 refine gB (lo:=0) (n:=ks[j].c) (fun i σ H'=>ai H H'∧∃(as:List Cs) (nn:Int) (o6:Option V),as.length=i∧(∀a∈as,a∈ns)∧H' l=some (.lst (as.map tx))∧σ=[some (.ref lk),some (.ref ln),some (.int c),some (.int nn),some (.ref tk),some (.ref l),o6]) ⟨sA,[],v / 5,none,rfl,(fun a ha=>nomatch ha),hL0,rfl⟩ ?_ ?_
 ·rintro i σ H' hi ⟨sm,as,nn,o6,Hf,KW,hL,rfl⟩
  obtain⟨j2,Ku,Q7⟩:=f9 (xs:=ns.map tx) (v:=nn) (by rw [Lm9];omega)
  have X2:ln≠l:=fun e=>by rw [e,hlH] at Ly;cases Ly
  have KY:H' ln=some (.lst (ns.map tx)):=sm _ _ Ly
  have E9:(0:Int)<((ns.map tx).length:Int):=by rw [Lm9];omega
  have Vq:((ns.map tx).length:Int)<2 ^ 30:=by rw [Lm9];omega
  refine⟨_,rfl,.inl ⟨rfl,_,aL.of hL⟩,_,rfl,_,rfl,_,rfl,ln,_,rfl,.inl (aL.of KY),_,_,rfl,rfl,E9,ln,_,_,_,rfl,rfl,aL.of KY,Q7,l,_,_,rfl,rfl,hL,(by rw [Lm9,aax];omega),?_⟩
  have KZ:j2<ns.length:=by simpa using Ku
  refine⟨_,rfl,_,rfl,ln,_,rfl,.inl (aL.of (by rw [aH X2];exact KY)),_,_,rfl,rfl,⟨by omega,by omega⟩,_,rfl,_,_,rfl,rfl,.inl ⟨by decide,by decide⟩,_,_,rfl,rfl,?_⟩
  refine⟨ai.aR sm hlH _,as++[ns[j2]],_,_,by simp [Hf],(fun a ha=>?_),(by rw [ae,aat];simp),rfl⟩
  rcases aaq.mp ha with z|z
  ·exact KW a z
  ·rw [aal.mp z];exact aap KZ
 ·rintro σ H' ⟨sm,as,nn,o6,Hf,KW,hL,rfl⟩
  have Oh:bT K H' tk [tx ks[j].n,.int ks[j].c,.bl ks[j].l]:=ht.same sm
  refine⟨_,rfl,tk,_,0,_,rfl,rfl,Oh,rfl,_,rfl,l,_,rfl,.inl ⟨aL.of hL,fun p hp=>⟨(by show 2≤aaj;decide),fun p2 EF=>?_⟩⟩⟩
  refine q _ ⟨ks[j].n,as⟩ _ (ai.trans sm (ai.trans (aj hp _) (aj EF _))) ⟨p2,p,rfl,bT.of ae,bT.of ?_⟩ ⟨⟨_,aap X1,rfl,Hf⟩,KW⟩
  rw [aH (aP ae EF)]
  exact ae
theorem dP:aC ["_law_cell","_law_sizes","_law_titles_here","_law_number","_law_rows","_law_flags"] ["_law_cell","_law_sizes"] (au jV):=⟨rfl,rfl,rfl,by decide +kernel,rfl,by decide +kernel,by decide +kernel⟩
theorem xW (F:dn K "_law_kinds" "_law_kinds" jV f fd) (a8:dz P w K mg base "_law_mix" 1 ["_law_cell","_law_k"] tD) (df:dz P w K mg base "_law_titles" 3 ["_law_cell","_law_many"] (oF ef.cps.toList)) (aY:mg "len"=none) (bY:mg "range"=none):a4 P w K mg base dJ 4 f fd ["_law_cell","_law_sizes"] (C9 K):=by
 refine F.ok dP (fun vs H Q E h=>?_) (fun cJ A outer s H vs Q E hr h=>?_)
 ·obtain⟨c,l,ns,m,rfl,_⟩:=h
  rfl
 obtain⟨c,l,ns,m,rfl,hl,Jl,GV,hm4,QM,q⟩:=h
 refine⟨_,(ah (ay (i:=2) dP.nd rfl (ady rfl) (ao df (hr.mono (by decide)) rfl (aa (pv 0) (aa af ag))))
 (ah (ay (i:=3) dP.nd rfl (ady rfl) (ao a8 (hr.mono (by decide)) rfl (aa (pv 0) (aa af ag))))
 (ah (ay (i:=4) dP.nd rfl (aaM rfl) (aV (aa (aV (aa d7 (aa d7 (aa d7 (aa d7 ag))))) (aa (aV (aa d7 (aa d7 (aa d7 (aa d7 ag))))) ag))))
 (ah (ay (i:=4) dP.nd rfl (aaM rfl) (aw cF (pv 4) (aV (aa (aV (aa d7 (aa d7 (aa d7 (aa d7 ag))))) (aa (aV (aa d7 (aa d7 (aa d7 (aa d7 ag))))) ag)))))
 (ah (ay (i:=5) dP.nd rfl (ady rfl) (aq aJ (pv 4) (aw bt (pv 3) af) (fun _ _=>rfl)))
 (ak (aG (bG [2,1,3,5] rfl (by kernel_rfl) (cC rfl bY (aa af ag)) (fun _ _ _ _ _=>bE) (fun _ _ _ _ _=>(bD (aa (aq (r:=GZ K) aJ (pv 1) (pv 0) (fun _ _=>rfl)) (aa (aq (r:=GZ K) aJ (pv 2) (aw bt (aw cK (pv 3) (aw cE (aw jx af (pv 0)) af)) (aK (vd (K:=K) rfl) rfl aY aaF (aa (pv 2) ag))) (fun _ _=>rfl)) (aa (aq (r:=GZ K) aJ (pv 4) (pv 0) (fun _ _=>rfl)) ag))))))))))))),?_⟩
 refine⟨_,rfl,c,4,rfl,by decide,fun lt zs H1 s1 t9 rT hz1 X3 Ql=>?_⟩
 refine⟨_,rfl,c,1,rfl,by decide,by decide,fun v H2 s2 v0=>?_⟩
 have z4:4≤aaj:=by decide
 have z2:2≤aaj:=by decide
 refine⟨z4,fun r1 h1=>⟨z4,fun r2 h2=>⟨z2,fun rr SJ=>?_⟩⟩⟩
 have e1:=aj h1 (.lst [.bl false,.bl true,.bl false,.bl true])
 have e2:=aj h2 (.lst [.bl true,.bl false,.bl false,.bl true])
 have e3:=aj SJ (.lst [.ref r1,.ref r2])
 refine⟨_,rfl,z4,fun r3 h3=>⟨z4,fun r4 h4=>⟨z2,fun rb hrb=>?_⟩⟩⟩
 have e4:=aj h3 (.lst [.bl false,.bl false,.bl true,.bl true])
 have e5:=aj h4 (.lst [.bl true,.bl false,.bl true,.bl false])
 have e6:=aj hrb (.lst [.ref r3,.ref r4])
 have X4:=e6 _ _ (e5 _ _ (e4 _ _ (ae (H:=upd (upd H2 r1 (.lst [.bl false,.bl true,.bl false,.bl true])) r2 (.lst [.bl true,.bl false,.bl false,.bl true])) (a:=rr) (o:=.lst [.ref r1,.ref r2]))))
 refine⟨rr,rb,_,_,rfl,rfl,X4,ae,z4,fun rc hrc=>?_⟩
 have e7:=aj hrc (.lst ([.ref r1,.ref r2]++[.ref r3,.ref r4]))
 have g1:=e7 _ _ (e6 _ _ (e5 _ _ (e4 _ _ (e3 _ _ (e2 _ _ (ae (H:=H2) (a:=r1) (o:=.lst [.bl false,.bl true,.bl false,.bl true])))))))
 have g2:=e7 _ _ (e6 _ _ (e5 _ _ (e4 _ _ (e3 _ _ (ae (H:=upd H2 r1 (.lst [.bl false,.bl true,.bl false,.bl true])) (a:=r2) (o:=.lst [.bl true,.bl false,.bl false,.bl true]))))))
 have g3:=e7 _ _ (e6 _ _ (e5 _ _ (ae (a:=r3) (o:=.lst [.bl false,.bl false,.bl true,.bl true]))))
 have g4:=e7 _ _ (e6 _ _ (ae (a:=r4) (o:=.lst [.bl true,.bl false,.bl true,.bl false])))
 have sC:=ai.trans e1 (ai.trans e2 (ai.trans e3 (ai.trans e4 (ai.trans e5 (ai.trans e6 e7)))))
 have MP:=ae (H:=upd (upd (upd (upd (upd (upd H2 r1 (.lst [.bl false,.bl true,.bl false,.bl true])) r2 (.lst [.bl true,.bl false,.bl false,.bl true])) rr (.lst [.ref r1,.ref r2])) r3 (.lst [.bl false,.bl false,.bl true,.bl true])) r4 (.lst [.bl true,.bl false,.bl true,.bl false])) rb (.lst [.ref r3,.ref r4])) (a:=rc) (o:=.lst ([.ref r1,.ref r2]++[.ref r3,.ref r4]))
 generalize upd (upd (upd (upd (upd (upd (upd H2 r1 (.lst [.bl false,.bl true,.bl false,.bl true])) r2 (.lst [.bl true,.bl false,.bl false,.bl true])) rr (.lst [.ref r1,.ref r2])) r3 (.lst [.bl false,.bl false,.bl true,.bl true])) r4 (.lst [.bl true,.bl false,.bl true,.bl false])) rb (.lst [.ref r3,.ref r4])) rc (.lst ([.ref r1,.ref r2]++[.ref r3,.ref r4]))=H9 at g1 g2 g3 g4 sC MP ⊢
 have MP:H9 rc=some (.lst [.ref r1,.ref r2,.ref r3,.ref r4]):=MP
 obtain⟨j,hj,ej⟩:=f9 (xs:=[V.ref r1,.ref r2,.ref r3,.ref r4]) (v:=v) (show 1≤4 by decide)
 have ej:lu [V.ref r1,.ref r2,.ref r3,.ref r4] (v % 4)=_:=ej
 have AI:∃(r:aaB) (bs:List Bool),[V.ref r1,.ref r2,.ref r3,.ref r4][j]=.ref r∧H9 r=some (.lst (bs.map V.bl))∧bs.length=4∧true∈bs∧false∈bs:=by
  match j,hj with
  | 0,_=>exact⟨r1,[false,true,false,true],rfl,g1,rfl,by decide,by decide⟩
  | 1,_=>exact⟨r2,[true,false,false,true],rfl,g2,rfl,by decide,by decide⟩
  | 2,_=>exact⟨r3,[false,false,true,true],rfl,g3,rfl,by decide,by decide⟩
  | 3,_=>exact⟨r4,[true,false,true,false],rfl,g4,rfl,by decide,by decide⟩
 obtain⟨rj,bs,erj,hrj,RZ,hby,hbn⟩:=AI
 rw [erj] at ej
 refine⟨_,rfl,_,rfl,_,_,rfl,rfl,(by show(0:Int)<4;decide),rc,_,_,_,rfl,rfl,aL.of MP,ej,?_⟩
 have sD:=ai.trans s1 (ai.trans s2 sC)
 have X5:=sC _ _ (s2 _ _ rT)
 have HG:aL K H9 l (ns.map V.int):=sD.seq hl
 refine⟨4,rfl,by decide,by decide,fun D hD=>?_⟩
 refine dU (n:=4) (lo:=0) (by decide) (fun i ys H'=>ai H9 H'∧H' D=some (.lst ys)∧∃EW:List Kd,Paired (Kind K H') EW ys∧EW.length=i∧EW.map (·.n)=zs.take i∧EW.map (·.l)=bs.take i∧∀k∈EW,k.c≤m) ⟨aj hD _,ae,[],.nil,rfl,rfl,rfl,fun k hk=>nomatch hk⟩ (fun i ys H' p=>⟨p.2.1,?_⟩) (fun i ys H' hi p=>?_) (fun ys H' p=>?_)
 ·obtain⟨_,_,EW,pk,hlen,_⟩:=p
  have:=aao pk
  omega
 ·obtain⟨sm,xg,EW,pk,hlen,nD,X6,Ed⟩:=p
  unfold xq
  simp only [if_true]
  have hiz:i<zs.length:=by omega
  have a1:lu (zs.map tx) (0+(i:Int))=some (tx zs[i]):=by rw [acG];exact bz (by rw [aa6,Ge9 hiz];rfl)
  have dw:i<bs.length:=by omega
  have a3:lu (bs.map V.bl) (0+(i:Int))=some (V.bl bs[i]):=by rw [acG];exact bz (by rw [aa6,Ge9 dw];rfl)
  obtain⟨j2,Ku,a2⟩:=f9 (xs:=ns.map V.int) (v:=v / (3 * (0+(i:Int))+5)) (by rw [Lm9];exact Jl)
  have KZ:j2<ns.length:=by simpa using Ku
  have X7:=QM _ (aap KZ)
  have e8:(ns.map V.int)[j2]=V.int ((ns[j2].toNat:Nat):Int):=by rw [aaG,adl X7.1]
  rw [e8] at a2
  have E9:(0:Int)<((ns.map V.int).length:Int):=by rw [Lm9];omega
  refine⟨_,rfl,_,rfl,lt,_,_,_,rfl,rfl,aL.of (sm _ _ X5),a1,_,rfl,_,rfl,_,rfl,_,_,rfl,rfl,.inl ⟨by decide,by decide⟩,_,_,rfl,rfl,_,_,rfl,rfl,⟨by omega,by omega⟩,_,rfl,l,_,rfl,.inl (sm.seq HG),_,_,rfl,rfl,E9,l,_,_,_,rfl,rfl,sm.seq HG,a2,_,rfl,_,rfl,rj,_,_,_,rfl,rfl,aL.of (sm _ _ hrj),a3,(by show 3≤aaj;decide),fun p hp=>?_⟩
  have s8:ai H' (upd H' p (.tup [tx zs[i],.int ((ns[j2].toNat:Nat):Int),.bl bs[i]])):=aj hp _
  refine⟨s8 _ _ xg,?_,ae,EW++[⟨zs[i],ns[j2].toNat,bs[i]⟩],?_,by simp [hlen],?_,?_,fun k hk=>?_⟩
  ·exact ai.aR (ai.trans sm s8) hD _
  ·refine a7 (ax pk fun k b _ hk=>?_) (.cons ⟨p,rfl,cT (s8 _ _ xg) (bT.of ae)⟩ .nil)
   obtain⟨t,e,h⟩:=Kind.sm s8 hk
   exact⟨t,e,cT (s8 _ _ xg) h⟩
  ·rw [aat,nD,aak hiz]
   rfl
  ·rw [aat,X6,aak dw]
   rfl
  ·rcases aaq.mp hk with z|z
   ·exact Ed k z
   ·rw [aal.mp z]
    show ns[j2].toNat≤m
    omega
 ·obtain⟨sm,xg,EW,pk,hlen,nD,X6,Ed⟩:=p
  have hnm':EW.map (·.n)=zs:=by rw [nD,← hz1,aa1]
  have Tq:EW.map (·.l)=bs:=by rw [X6,← RZ,aa1]
  refine q D EW H' (ai.trans sD sm) (sD.free hD) ⟨ys,xg,pk⟩ ⟨hlen,by rw [hnm'];exact Ql,fun k hk=>⟨?_,abj (Ed k hk) hm4⟩,?_,?_⟩ Ed
  ·have hz:=X3 k.n (by rw [← hnm'];exact aeB hk)
   unfold a6
   rw [hz.1,decide_eq_true hz.2]
   rfl
  ·rw [← Tq] at hby
   obtain⟨k,hk,e⟩:=aay.mp hby
   exact⟨k,hk,e⟩
  ·rw [← Tq] at hbn
   obtain⟨k,hk,e⟩:=aay.mp hbn
   exact⟨k,hk,e⟩
end
end ft
namespace ft
open PySem L2 cR Bk
set_option maxHeartbeats 4000000
theorem K0:∀c∈uf.cps.toList,aez ⟨#[c]⟩=decide (c∈eX.cps.toList):=by decide +kernel
theorem Qm {c:Nat} (h:bp c=true):c∈uf.cps.toList:=by
 have key:∀c∈ef.cps.toList++(eX.cps.toList++Hc.cps.toList),c∈uf.cps.toList:=by decide +kernel
 refine key c ?_
 unfold bp at h
 rw [acS,acS] at h
 rcases h with h|h|h
 ·exact aas _ (of_decide_eq_true h)
 ·exact aah _ (aas _ (of_decide_eq_true h))
 ·exact aah _ (aah _ (of_decide_eq_true h))
theorem wq {n:Cs} (h:aD n=true):aez ⟨#[n.headD 0]⟩=great n:=by
 unfold aD at h
 rw [aaW,aaW] at h
 cases n with
 | nil=>have:=of_decide_eq_true h.1;simp at this
 | cons c r =>
  have z:=aa4.mp h.2.2 c (aav ..)
  exact K0 c (Qm z)
section
variable {P:aaS} {w:abg} {K:aae} {mg:Str→Option aai} {base:Heap} {f:aaB} {fd:aa9} {c:Cl}
theorem m9 {H:Hp} {D:aaB} {xs ys:List V} {g:Fc} {v:V} (hD:H D=some (.lst xs)) (h:Fact K H g v):Fact K (upd H D (.lst ys)) g v:=by
 obtain⟨t,t2,e,h1,h2⟩:=h
 exact⟨t,t2,e,cT hD h1,cT hD h2⟩
theorem du:aC ["_law_cell","_law_menu","_law_number","_law_many","_law_row","_law_k"] ["_law_cell","_law_menu"] (au iM):=⟨rfl,rfl,rfl,by decide +kernel,rfl,by decide +kernel,by decide +kernel⟩
theorem wt (F:dn K "_law_counts" "_law_counts" iM f fd) (a8:dz P w K mg base "_law_mix" 1 ["_law_cell","_law_k"] tD) (aY:mg "len"=none) (bY:mg "range"=none):a4 P w K mg base dJ 2 f fd ["_law_cell","_law_menu"] (Dc K):=by
 refine F.ok du (fun vs H Q E h=>?_) (fun cJ A outer s H vs Q E hr h=>?_)
 ·obtain⟨c,l,ns,m,rfl,_⟩:=h
  rfl
 obtain⟨c,l,ns,m,rfl,hl,Jl,GV,X8,hm4,QM,q⟩:=h
 refine⟨_,(ah (ay (i:=2) du.nd rfl (aaM rfl) (ao a8 (hr.mono (by decide)) rfl (aa (pv 0) (aa af ag))))
 (ah (ay (i:=3) du.nd rfl (aaM rfl) (aK aB rfl aY aaF (aa (pv 1) ag)))
 (ah (ay (i:=4) du.nd rfl (aaM rfl) (aV ag))
 (ah (b8 aa0 rfl (cC rfl bY (aa af ag)) (bw (i:=5) du.nd rfl (aaM rfl))
 (ah (bh (bx aaD aaI aaL bg (pv 4) (aa (aq aJ (pv 1) (aw bt (pv 2) (pv 3)) (fun _ _=>rfl)) ag)))
 (ak (ay (i:=2) du.nd rfl (aaM rfl) (aw cK (pv 2) (pv 3))))))
 (ah (aX (aE cg (aw cE (aq aJ (pv 4) af (fun _ _=>rfl)) (aq aJ (pv 4) af (fun _ _=>rfl))) af (aM _))
 (ak (IH af (IG (pv 4) af set_list)))
 aI)
 (ak (aG (pv 4)))))))),?_⟩
 refine⟨_,rfl,c,3,rfl,by decide,by decide,fun v H1 s1 v0=>?_⟩
 refine⟨_,rfl,l,_,rfl,.inl (s1.seq hl),?_⟩
 refine⟨(by show 0≤aaj;decide),fun r HE=>?_⟩
 have s2:=aj HE (.lst [])
 have sA:=ai.trans s1 s2
 have Vr:H r=none:=s1.free HE
 have E9:(0:Int)<((ns.map V.int).length:Int):=by rw [Lm9];omega
 have Vq:((ns.map V.int).length:Int)<2 ^ 30:=by rw [Lm9];omega
 refine⟨5,rfl,by decide,by decide,?_⟩
 refine gB (lo:=0) (n:=5) (fun i σ H'=>ai H H'∧∃(as:List Nat) (nn:Int) (o:Option V),as.length=i∧(∀a∈as,a≤m)∧H' r=some (.lst (as.map fun n:Nat=>V.int (n:Int)))∧σ=[some (.int c),some (.ref l),some (.int nn),some (.int ((ns.map V.int).length:Int)),some (.ref r),o]) ⟨sA,[],v,none,rfl,(fun a ha=>nomatch ha),ae,rfl⟩ ?_ ?_
 ·rintro i σ H' hi ⟨sm,as,nn,o,Hf,KW,hL,rfl⟩
  obtain⟨j,hj,ej⟩:=f9 (xs:=ns.map V.int) (v:=nn) (by rw [Lm9];exact Jl)
  have hj':j<ns.length:=by simpa using hj
  have X7:=QM _ (aap hj')
  have e8:(ns.map V.int)[j]=V.int ((ns[j].toNat:Nat):Int):=by rw [aaG,adl X7.1]
  rw [e8] at ej
  have hl':aL K H' l (ns.map V.int):=sm.seq hl
  refine⟨_,rfl,.inl ⟨rfl,_,aL.of hL⟩,_,rfl,_,rfl,_,rfl,_,_,rfl,rfl,E9,l,_,_,_,rfl,rfl,hl',ej,r,_,_,rfl,rfl,hL,(by rw [Lm9,aax];omega),?_⟩
  refine⟨_,rfl,_,rfl,_,_,rfl,rfl,⟨by omega,by omega⟩,?_⟩
  refine⟨ai.aR sm Vr _,as++[ns[j].toNat],_,_,by simp [Hf],(fun a ha=>?_),(by rw [ae,aat];simp),rfl⟩
  rcases aaq.mp ha with z|z
  ·exact KW a z
  ·rw [aal.mp z]
   omega
 ·rintro σ H' ⟨sm,as,nn,o,Hf,KW,hL,rfl⟩
  obtain⟨a,b,c2,d,e,rfl⟩:∃a b c d e,as=[a,b,c,d,e]:=by
   match as,Hf with
   | [a,b,c,d,e],_=>exact⟨a,b,c,d,e,rfl⟩
  have hL:H' r=some (.lst [.int a,.int b,.int c2,.int d,.int e]):=hL
  have b1:=KW a (by simp)
  have b2:=KW b (by simp)
  have b3:=KW c2 (by simp)
  have b4:=KW d (by simp)
  have b5:=KW e (by simp)
  refine⟨_,rfl,r,_,0,_,rfl,rfl,aL.of hL,rfl,_,rfl,r,_,1,_,rfl,rfl,aL.of hL,rfl,_,_,rfl,rfl,rfl,_,rfl,?_⟩
  show(if decide (V.int ((a:Int)+(b:Int))=V.int 0)=true then _ else _)
  by_cases h0:a+b=0
  ·have ha:a=0:=by omega
   have hb:b=0:=by omega
   subst ha hb
   rw [decide_eq_true (by rfl)]
   refine cL ?_
   refine⟨_,rfl,r,_,1,1,rfl,rfl,hL,rfl,?_⟩
   exact⟨_,rfl,q r 0 1 c2 d e _ (ai.aR sm Vr _) Vr ae ⟨b1,X8,b3,b4,b5⟩ (by decide)⟩
  ·rw [decide_eq_false (fun z=>h0 (by have:=V.int.inj z;omega))]
   refine bo ?_
   exact⟨_,rfl,q r a b c2 d e H' sm Vr hL ⟨b1,b2,b3,b4,b5⟩ (by omega)⟩
theorem xX:aC ["_law_kinds_here","_law_names_here","_law_cells","_law_first","_law_many"] ["_law_kinds_here","_law_names_here","_law_cells","_law_first","_law_many"] (au jW):=⟨rfl,rfl,rfl,by decide +kernel,rfl,by decide +kernel,by decide +kernel⟩
theorem xY (F:dn K "_law_facts" "_law_facts" jW f fd) (a8:dz P w K mg base "_law_mix" 1 ["_law_cell","_law_k"] tD) (mP:dz P w K mg base "_law_fact" 2 ["_law_kinds_here","_law_names_here","_law_cell"] (Gs K)) (aY:mg "len"=none) (bY:mg "range"=none):a4 P w K mg base dJ 3 f fd ["_law_kinds_here","_law_names_here","_law_cells","_law_first","_law_many"] (Dd K):=by
 refine F.ok xX (fun vs H Q E h=>?_) (fun cJ A outer s H vs Q E hr h=>?_)
 ·obtain⟨lk,ln,lc,ks,ns,cs,first,many,rfl,_⟩:=h
  rfl
 obtain⟨lk,ln,lc,ks,ns,cs,first,many,rfl,Oi,PB,NY,PL,Ly,Jl,GV,Ed,Sm,yJ,hf,hm,q⟩:=h
 refine⟨_,(ak (aG (bG [0,1,2,3] rfl (by kernel_rfl) (cC rfl bY (aa (pv 4) ag)) (fun _ _ _ _ _=>bE) (fun _ _ _ _ _=>(ao mP (hr.mono (by decide)) rfl (aa (pv 1) (aa (pv 2) (aa (ao a8 (hr.mono (by decide)) rfl (aa (aq (r:=GZ K) aJ (pv 3) (aw bt (aw cE (pv 4) (pv 0)) (aK (vd (K:=K) rfl) rfl aY aaF (aa (pv 3) ag))) (fun _ _=>rfl)) (aa (aw cE (pv 4) (pv 0)) ag))) ag)))))))),?_⟩
 refine⟨_,rfl,(many:Int),rfl,by omega,by omega,fun D hD=>?_⟩
 rw [show((many:Nat):Int).toNat=many from abr _]
 refine dU (n:=many) (lo:=0) (iC (by omega)) (fun i ys H'=>ai H H'∧H' D=some (.lst ys)∧∃fs:List Fc,Paired (Fact K H') fs ys∧fs.length=i∧∀f∈fs,MA ks ns f) ⟨aj hD _,ae,[],.nil,rfl,fun k hk=>nomatch hk⟩ (fun i ys H' p=>⟨p.2.1,?_⟩) (fun i ys H' hi p=>?_) (fun ys H' p=>?_)
 ·obtain⟨_,_,fs,pk,hlen,_⟩:=p
  have:=aao pk
  omega
 ·obtain⟨sm,xg,fs,pk,hlen,X9⟩:=p
  unfold xq
  simp only [if_true]
  obtain⟨j,hj,ej⟩:=f9 (xs:=cs.map V.int) (v:=(first:Int)+(0+(i:Int))) (by rw [Lm9];exact Sm)
  have hj':j<cs.length:=by simpa using hj
  rw [aaG] at ej
  have E9:(0:Int)<((cs.map V.int).length:Int):=by rw [Lm9];omega
  have Tt:aL K H' lc (cs.map V.int):=sm.seq Ed
  refine⟨_,rfl,_,rfl,_,rfl,_,rfl,_,rfl,_,_,rfl,rfl,_,rfl,lc,_,rfl,.inl Tt,_,_,rfl,rfl,E9,lc,_,_,_,rfl,rfl,Tt,ej,_,rfl,_,rfl,_,_,rfl,rfl,?_⟩
  refine⟨_,_,rfl,by omega,by omega,fun v H1 s1 v0=>?_⟩
  refine⟨lk,ln,v,ks,ns,rfl,Oi.sm (ai.trans sm s1),PB,NY,PL,s1 _ _ (sm _ _ Ly),Jl,GV,fun v' f H2 s2 hF Ya=>?_⟩
  have s8:=ai.trans s1 s2
  refine⟨s8 _ _ xg,ai.aR (ai.trans sm s8) hD _,ae,fs++[f],?_,by simp [hlen],fun g hg=>?_⟩
  ·exact a7 (ax pk fun g b _ hg=>m9 (s8 _ _ xg) (Fact.sm s8 hg)) (.cons (m9 (s8 _ _ xg) hF) .nil)
  ·rcases aaq.mp hg with z|z
   ·exact X9 g z
   ·rw [aal.mp z]
    exact Ya
 ·obtain⟨sm,xg,fs,pk,hlen,X9⟩:=p
  exact q D fs H' sm hD ⟨ys,xg,pk⟩ hlen X9
theorem Kq {fs:List Fc} (h:∀g∈fs,g.as.length≤4):(fs.flatMap (·.as)).length≤4 * fs.length:=by
 induction fs with
 | nil=>simp
 | cons a r ih =>
  have h1:=h a (aav ..)
  have ih:=ih fun g hg=>h g (aam _ hg)
  rw [abY,aag,aar]
  omega
theorem jm (fs:List Fc):kn [] (fs.flatMap (·.as))=opens fs:=by
 unfold opens
 rw [ik]
 unfold eQ kn
 have e:(fun acc x=>kU x acc)=Gj:=by
  funext acc x
  unfold kU Gj
  rfl
 rw [e]
theorem fM:aC ["_law_facts_here","_law_known_here","_law_fact_here","_law_name"] ["_law_facts_here"] (au jX):=⟨rfl,rfl,rfl,by decide +kernel,rfl,by decide +kernel,by decide +kernel⟩
theorem xZ (F:dn K "_law_heads" "_law_heads" jX f fd):a4 P w K mg base dJ 1 f fd ["_law_facts_here"] (Ai K):=by
 refine F.ok fM (fun vs H Q E h=>?_) (fun cJ A outer s H vs Q E hr h=>?_)
 ·obtain⟨lf,fs,rfl,_⟩:=h
  rfl
 obtain⟨lf,fs,rfl,⟨Gi,hf,pf⟩,XZ,ED,q⟩:=h
 refine⟨_,(ah (ay (i:=1) fM.nd rfl (aaM rfl) (aV ag))
 (ah (b8 aa0 rfl (aT (pv 0)) (bw (i:=2) fM.nd rfl (aaM rfl))
 (ak (b8 aa0 rfl (El (aq ar (pv 2) af (fun _ _=>rfl))) (bw (i:=3) fM.nd rfl (aaM rfl))
 (ak (aX (PW.pt (lB (cW (I8 aaC adM adN u9 (aq fW (pv 3) af (fun _ _=>rfl)))) (hV (aE dB (pv 3) (pv 1) (by with_unfolding_all rfl)))))
 (ak (bh (bx aaD aaI aaL bg (pv 1) (aa (pv 3) ag))))
 aI)))))
 (ak (aG (pv 1))))),?_⟩
 have zf:=aao pf
 refine⟨(by show 0≤aaj;decide),fun l hl=>?_⟩
 have s1:=aj hl (.lst [])
 refine⟨_,rfl,lf,rfl,⟨_,aL.of (s1 _ _ hf)⟩,bP (K:=K) (a:=lf) (xs:=Gi) (fun i σ H'=>ai H H'∧H' l=some (.lst ((kn [] ((fs.take i).flatMap (·.as))).map tx))∧∃o o2,σ=[some (.ref lf),some (.ref l),o,o2]) ⟨s1,ae,none,none,rfl⟩ (fun i σ H' _ ⟨sm,_⟩=>aL.of (sm _ _ hf)) ?_ ?_⟩
 ·rintro i y σ H' hi ⟨sm,hL,o,o2,rfl⟩
  obtain⟨sv,ey⟩:=aN hi
  have nq:i<fs.length:=by omega
  have hFa:=paired_at pf i nq sv
  rw [ey] at hFa
  obtain⟨t,t2,et,g1,g2⟩:=hFa
  subst et
  have hF:=ED _ (aap nq)
  have e0:kn [] ((fs.take (i+1)).flatMap (·.as))=kn (kn [] ((fs.take i).flatMap (·.as))) fs[i].as:=by rw [Hg nq,PK]
  have hz:=Ad ((fs.take i).flatMap (·.as)) []
  have hz2:((fs.take i).flatMap (·.as)).length≤4 * i:=by
   have z:=Kq (fs:=fs.take i) fun g hg=>(ED g (abn hg)).1
   rw [aaA] at z
   omega
  simp only [abb] at hz
  rw [e0]
  generalize kn [] ((fs.take i).flatMap (·.as))=acc at hL hz ⊢
  generalize fs[i].as=ns at g2 hF ⊢
  refine⟨_,rfl,t,_,1,_,rfl,rfl,g1.same sm,rfl,t2,rfl,⟨_,g2.same sm⟩,Fz (K:=K) (a:=t2) (xs:=ns.map tx) (fun j σ H2=>ai H H2∧H2 l=some (.lst ((kn acc (ns.take j)).map tx))∧∃o2,σ=[some (.ref lf),some (.ref l),some (.ref t),o2]) ⟨sm,hL,_,rfl⟩ (fun i σ H' _ ⟨sm,_⟩=>g2.same sm) ?_ ?_⟩
  ·rintro j y σ H2 Vs ⟨nM,vP,o,rfl⟩
   obtain⟨K1,Yb⟩:=aN Vs
   have hjN:j<ns.length:=by simpa using K1
   have Yb:tx ns[j]=y:=by rw [← Yb];simp
   subst Yb
   have FL:=hF.2 _ (aap hjN)
   have hco:=lQ FL
   have e1:kn acc (ns.take (j+1))=Gj (kn acc (ns.take j)) ns[j]:=by
    rw [aak hjN]
    unfold kn
    rw [acW]
    rfl
   have hlen:=Ad (ns.take j) acc
   rw [aaA] at hlen
   have h4:=hF.1
   generalize kn acc (ns.take j)=ac at e1 hlen vP ⊢
   have vh:1≤(S ns[j]).length:=by
    rw [aS]
    cases hh:ns[j] with
    | nil=>exact absurd hh hco.1
    | cons a r=>simp
   refine⟨_,rfl,S ns[j],0,_,rfl,rfl,(by rw [aS];exact sz (by have:=hco.2.1;omega)),uD vh,rfl,_,rfl,rfl,_,rfl,?_⟩
   rw [bH,wq FL]
   by_cases hg:great ns[j]=true
   ·rw [hg]
    refine cL ?_
    refine⟨_,rfl,_,rfl,l,_,rfl,.inl (aL.of vP),rfl,gJ _,_,rfl,?_⟩
    rw [if_pos rfl,jF]
    by_cases hm:ns[j]∈ac
    ·rw [decide_eq_true hm]
     refine bo ⟨nM,?_,_,rfl⟩
     rw [vP,e1]
     unfold Gj
     rw [if_pos hg,if_pos hm]
    ·rw [decide_eq_false hm]
     refine cL ⟨_,rfl,.inl ⟨rfl,_,aL.of vP⟩,_,rfl,l,_,_,rfl,rfl,vP,(by rw [Lm9,aax];omega),?_⟩
     refine⟨ai.aR nM hl _,?_,_,rfl⟩
     rw [ae,e1]
     unfold Gj
     rw [if_pos hg,if_neg hm,aat]
     rfl
   ·have hg':great ns[j]=false:=by simpa using hg
    rw [hg']
    refine bo (bo ⟨nM,?_,_,rfl⟩)
    rw [vP,e1]
    unfold Gj
    rw [if_neg hg]
  ·rintro σ H2 ⟨nM,vP,o,rfl⟩
   rw [Lm9,aa1] at vP
   exact⟨nM,vP,_,_,rfl⟩
 ·rintro σ H' ⟨sm,hL,o,o2,rfl⟩
  rw [← zf,aa1,jm] at hL
  exact⟨_,rfl,q l H' sm hl hL⟩
end
end ft
namespace ft
open PySem L2 cR Bk
set_option maxHeartbeats 4000000
section
variable {P:aaS} {w:abg} {K:aae} {mg:Str→Option aai} {base:Heap} {f:aaB} {fd:aa9} {c:Cl}
theorem tK:aC ["_law_names_here","_law_cells","_law_first","_law_k","_law_number"] ["_law_names_here","_law_cells","_law_first","_law_k"] (au oK):=⟨rfl,rfl,rfl,by decide +kernel,rfl,by decide +kernel,by decide +kernel⟩
theorem DA (F:dn K "_law_two" "_law_two" oK f fd) (a8:dz P w K mg base "_law_mix" 1 ["_law_cell","_law_k"] tD) (aY:mg "len"=none):a4 P w K mg base dJ 2 f fd ["_law_names_here","_law_cells","_law_first","_law_k"] (Kl K):=by
 refine F.ok tK (fun vs H Q E h=>?_) (fun cJ A outer s H vs Q E hr h=>?_)
 ·obtain⟨ln,lc,ns,cs,first,k,rfl,_⟩:=h
  rfl
 obtain⟨ln,lc,ns,cs,first,k,rfl,Ly,Jl,GV,Ed,Sm,yJ,hf,hk,q⟩:=h
 refine⟨_,(ah (ay (i:=4) tK.nd rfl (aaM rfl) (ao a8 (hr.mono (by decide)) rfl (aa (aq aJ (pv 1) (aw bt (aw cE (pv 2) (aw jx af (pv 3))) (aK aB rfl aY aaF (aa (pv 1) ag))) (fun _ _=>rfl)) (aa (aw cE (pv 2) (pv 3)) ag))))
 (ak (aG (bD (aa (aq aJ (pv 0) (aw bt (pv 4) (aK aB rfl aY aaF (aa (pv 0) ag))) (fun _ _=>rfl)) (aa (aq aJ (pv 0) (aw bt (aw cK (pv 4) af) (aK aB rfl aY aaF (aa (pv 0) ag))) (fun _ _=>rfl)) (aa (aw bt (aw cK (pv 4) af) af) ag))))))),?_⟩
 obtain⟨j,hj,ej⟩:=f9 (xs:=cs.map V.int) (v:=(first:Int)+3 * (k:Int)) (by rw [Lm9];exact Sm)
 rw [aaG] at ej
 have E9:(0:Int)<((cs.map V.int).length:Int):=by rw [Lm9];omega
 refine⟨_,rfl,_,rfl,_,rfl,_,_,rfl,rfl,.inl ⟨by decide,by decide⟩,_,_,rfl,rfl,_,rfl,lc,_,rfl,.inl Ed,_,_,rfl,rfl,E9,lc,_,_,_,rfl,rfl,Ed,ej,_,rfl,_,rfl,_,_,rfl,rfl,?_⟩
 refine⟨_,_,rfl,by omega,by omega,fun v H1 s1 v0=>?_⟩
 have HH:=s1 _ _ Ly
 obtain⟨j1,hj1,ej1⟩:=f9 (xs:=ns.map tx) (v:=v) (by rw [Lm9];exact Jl)
 obtain⟨j2,Ku,Q7⟩:=f9 (xs:=ns.map tx) (v:=v / 8) (by rw [Lm9];exact Jl)
 rw [aaG] at ej1 Q7
 have hj1':j1<ns.length:=by simpa using hj1
 have KZ:j2<ns.length:=by simpa using Ku
 have Vq:(0:Int)<((ns.map tx).length:Int):=by rw [Lm9];omega
 refine⟨_,rfl,_,rfl,_,rfl,ln,_,rfl,.inl (aL.of HH),_,_,rfl,rfl,Vq,ln,_,_,_,rfl,rfl,aL.of HH,ej1,?_⟩
 refine⟨_,rfl,_,rfl,_,_,rfl,rfl,⟨by decide,by decide⟩,_,rfl,ln,_,rfl,.inl (aL.of HH),_,_,rfl,rfl,Vq,ln,_,_,_,rfl,rfl,aL.of HH,Q7,?_⟩
 refine⟨_,rfl,_,_,rfl,rfl,⟨by decide,by decide⟩,_,_,rfl,rfl,(by show(0:Int)<2;decide),?_⟩
 refine⟨(by show 3≤aaj;decide),fun t ht=>?_⟩
 have md:=mid (a:=v / 64) (b:=2) (by decide)
 have e2:v / 64 % 2=(((v / 64 % 2).toNat:Nat):Int):=by omega
 have s2:=aj ht (.tup [tx ns[j1],tx ns[j2],.int (v / 64 % 2)])
 refine q t _ _ (v / 64 % 2).toNat _ (ai.trans s1 s2) (aap hj1') (aap KZ) (by omega) (bT.of ?_)
 rw [← e2]
 exact ae
theorem GA {n:Nat} (h:n<2):lu [V.str (aaf "same"),V.str (aaf "unlike")] (n:Int)=some (tx (gK (decide (n=0)))):=by
 have e1:V.str (aaf "same")=tx iD:=by decide +kernel
 have e2:V.str (aaf "unlike")=tx eF:=by decide +kernel
 rw [e1,e2]
 rcases(by omega:n=0∨n=1) with rfl|rfl
 ·exact bz (j:=0) rfl
 ·exact bz (j:=1) rfl
theorem bj:aC ["_law_kinds_here","_law_opens_here","_law_words_here","_law_cells","_law_menu","_law_row","_law_taken","_law_kept","_law_names_here","_law_some","_law_given","_law_looks","_law_k","_law_two_here","_law_told"] ["_law_kinds_here","_law_opens_here","_law_words_here","_law_cells","_law_menu"] (au my):=⟨rfl,rfl,rfl,by decide +kernel,rfl,by decide +kernel,by decide +kernel⟩
theorem A3 (F:dn K "_law_rule" "_law_rule" my f fd) (iT:dz P w K mg base "_law_counts" 2 ["_law_cell","_law_menu"] (Dc K)) (fi:dz P w K mg base "_law_facts" 3 ["_law_kinds_here","_law_names_here","_law_cells","_law_first","_law_many"] (Dd K)) (dH:dz P w K mg base "_law_heads" 1 ["_law_facts_here"] (Ai K)) (kg:dz P w K mg base "_law_two" 2 ["_law_names_here","_law_cells","_law_first","_law_k"] (Kl K)) (aY:mg "len"=none) (bY:mg "range"=none):a4 P w K mg base dJ 4 f fd ["_law_kinds_here","_law_opens_here","_law_words_here","_law_cells","_law_menu"] (Gu K):=by
 refine F.ok bj (fun vs H Q E h=>?_) (fun cJ A outer s H vs Q E hr h=>?_)
 ·obtain⟨lk,lo,lw,lc,lm,ks,os,ws,cs,ms,m,rfl,_⟩:=h
  rfl
 obtain⟨lk,lo,lw,lc,lm,ks,os,ws,cs,ms,m,rfl,Oi,hG,hlo,Q8,ho,hw1,hw2,hN,Q9,yJ,Tv,Yc,X8,hm2,hM1,hM4,Tw,q⟩:=h
 refine⟨_,(@ah _ _ _ _ _ (@ay _ _ (5) _ _ _ _ bj.nd rfl (aaM rfl) (@ao _ _ _ _ _ _ _ _ _ _ iT (hr.mono (by decide)) rfl (@aa _ _ _ _ _ (@aq _ _ _ _ _ _ _ (@aJ _) (pv 3) (@af _ _ _ _) (fun _ _=>rfl)) (@aa _ _ _ _ _ (pv 4) (@ag _) (by rfl)) (by rfl)) (by decide) (by rfl) (by rfl)) (by rfl) (by first|exact .inl rfl|exact .inr rfl|assumption)) (@ah _ _ _ _ _ (@ay _ _ (3) _ _ _ _ bj.nd rfl (aaM rfl) (@cy _ _ _ _ _ _ _ _ _ _ (@fI _) (pv 3) (@cv _ _ _ (@af _ _ _ _)) (@d4 _)) (by rfl) (by first|exact .inl rfl|exact .inr rfl|assumption)) (@ah _ _ _ _ _ (@ay _ _ (6) _ _ _ _ bj.nd rfl (aaM rfl) (@ao _ _ _ _ _ _ _ _ _ _ fi (hr.mono (by decide)) rfl (@aa _ _ _ _ _ (@bG _ _ _ _ _ _ _ _ _ _ _ [] rfl (by kernel_rfl) (@aT _ _ _ _ (pv 0)) (fun _ _ _ _ _=>(@jB _ _ _ (@jv _ _ _ _ (@cW _ _ _ (@aq _ _ _ _ _ _ (nA K) (@ar _) (pv 0) (@af _ _ _ _) (fun _ _=>rfl)) (by intro _;rfl))))) (fun _ _ _ _ _=>(pv 0)) (by intro _;rfl)) (@aa _ _ _ _ _ (@aw _ _ _ _ _ _ _ _ (@cF _) (pv 1) (pv 2)) (@aa _ _ _ _ _ (pv 3) (@aa _ _ _ _ _ (@af _ _ _ _) (@aa _ _ _ _ _ (@aq _ _ _ _ _ _ _ (@aJ _) (pv 5) (@af _ _ _ _) (fun _ _=>rfl)) (@ag _) (by rfl)) (by rfl)) (by rfl)) (by rfl)) (by rfl)) (by decide) (by rfl) (by rfl)) (by rfl) (by first|exact .inl rfl|exact .inr rfl|assumption)) (@ah _ _ _ _ _ (@ay _ _ (7) _ _ _ _ bj.nd rfl (aaM rfl) (@ao _ _ _ _ _ _ _ _ _ _ fi (hr.mono (by decide)) rfl (@aa _ _ _ _ _ (pv 0) (@aa _ _ _ _ _ (@aw _ _ _ _ _ _ _ _ (@cF _) (pv 1) (pv 2)) (@aa _ _ _ _ _ (pv 3) (@aa _ _ _ _ _ (@aq _ _ _ _ _ _ _ (@aJ _) (pv 5) (@af _ _ _ _) (fun _ _=>rfl)) (@aa _ _ _ _ _ (@aq _ _ _ _ _ _ _ (@aJ _) (pv 5) (@af _ _ _ _) (fun _ _=>rfl)) (@ag _) (by rfl)) (by rfl)) (by rfl)) (by rfl)) (by rfl)) (by decide) (by rfl) (by rfl)) (by rfl) (by first|exact .inl rfl|exact .inr rfl|assumption)) (@ah _ _ _ _ _ (@ay _ _ (8) _ _ _ _ bj.nd rfl (aaM rfl) (@aw _ _ _ _ _ _ _ _ (@cF _) (@ao _ _ _ _ _ _ _ _ _ _ dH (hr.mono (by decide)) rfl (@aa _ _ _ _ _ (@aw _ _ _ _ _ _ _ _ (@cF _) (pv 6) (pv 7)) (@ag _) (by rfl)) (by decide) (by rfl) (by rfl)) (pv 2)) (by rfl) (by first|exact .inl rfl|exact .inr rfl|assumption)) (@ah _ _ _ _ _ (@ay _ _ (9) _ _ _ _ bj.nd rfl (aaM rfl) (pv 0) (by rfl) (by first|exact .inl rfl|exact .inr rfl|assumption)) (@ah _ _ _ _ _ (@aX _ _ _ _ _ _ _ _ (@aE _ _ _ _ _ _ _ _ (@cg _) (@aK _ _ _ _ _ _ _ _ _ (@aB _) rfl aY aaF (@aa _ _ _ _ _ (pv 6) (@ag _) (by rfl)) (by decide) (by decide) (by rfl) (by rfl)) (@af _ _ _ _) (aM _)) (@ak _ _ _ (@ie _ (9) _ _ _ _ _ _ _ _ _ _ _ _ _ [] bj.nd rfl (aaM rfl) rfl (by kernel_rfl) (@aT _ _ _ _ (pv 0)) (fun _ _ _ _ _=>(@jB _ _ _ (@cW _ _ _ (@aq _ _ _ _ _ _ (nA K) (@ar _) (pv 0) (@af _ _ _ _) (fun _ _=>rfl)) (by intro _;rfl)))) (fun _ _ _ _ _=>(pv 0)) (by rfl) (by intro _;rfl) (by first|exact .inl rfl|exact .inr rfl|assumption))) (@aI _)) (@ah _ _ _ _ _ (@ay _ _ (10) _ _ _ _ bj.nd rfl (aaM rfl) (@ao _ _ _ _ _ _ _ _ _ _ fi (hr.mono (by decide)) rfl (@aa _ _ _ _ _ (pv 9) (@aa _ _ _ _ _ (pv 8) (@aa _ _ _ _ _ (pv 3) (@aa _ _ _ _ _ (@af _ _ _ _) (@aa _ _ _ _ _ (@aq _ _ _ _ _ _ _ (@aJ _) (pv 5) (@af _ _ _ _) (fun _ _=>rfl)) (@ag _) (by rfl)) (by rfl)) (by rfl)) (by rfl)) (by rfl)) (by decide) (by rfl) (by rfl)) (by rfl) (by first|exact .inl rfl|exact .inr rfl|assumption)) (@ah _ _ _ _ _ (@ay _ _ (11) _ _ _ _ bj.nd rfl (aaM rfl) (@aV _ _ _ _ (@ag _)) (by rfl) (by first|exact .inl rfl|exact .inr rfl|assumption)) (@ah _ _ _ _ _ (@b8 _ _ _ _ _ _ _ _ aa0 rfl (@cC _ _ _ _ _ _ rfl bY (@aa _ _ _ _ _ (@aq _ _ _ _ _ _ _ (@aJ _) (pv 5) (@af _ _ _ _) (fun _ _=>rfl)) (@ag _) (by rfl)) (by rfl)) (@bw _ _ (12) _ bj.nd rfl (aaM rfl) (by first|exact .inl rfl|exact .inr rfl|assumption)) (@ah _ _ _ _ _ (@ay _ _ (13) _ _ _ _ bj.nd rfl (aaM rfl) (@ao _ _ _ _ _ _ _ _ _ _ kg (hr.mono (by decide)) rfl (@aa _ _ _ _ _ (pv 8) (@aa _ _ _ _ _ (pv 3) (@aa _ _ _ _ _ (@af _ _ _ _) (@aa _ _ _ _ _ (pv 12) (@ag _) (by rfl)) (by rfl)) (by rfl)) (by rfl)) (by decide) (by rfl) (by rfl)) (by rfl) (by first|exact .inl rfl|exact .inr rfl|assumption)) (@ak _ _ _ (@bh _ _ _ _ (@bx _ _ _ _ _ _ _ _ _ _ _ _ aaD aaI aaL (@bg _) (pv 11) (@aa _ _ _ _ _ (@bD _ _ _ _ _ (@aa _ _ _ _ _ (@aq _ _ _ _ _ _ _ (@ar _) (pv 13) (@af _ _ _ _) (fun _ _=>rfl)) (@aa _ _ _ _ _ (@aq _ _ _ _ _ _ _ (@aJ _) (@aV _ _ _ _ (@aa _ _ _ _ _ (@aF _ _ _ _) (@aa _ _ _ _ _ (@aF _ _ _ _) (@ag _) (by rfl)) (by rfl))) (@aq _ _ _ _ _ _ _ (@ar _) (pv 13) (@af _ _ _ _) (fun _ _=>rfl)) (fun _ _=>rfl)) (@aa _ _ _ _ _ (@aq _ _ _ _ _ _ _ (@ar _) (pv 13) (@af _ _ _ _) (fun _ _=>rfl)) (@ag _) (by rfl)) (by rfl)) (by rfl))) (@ag _) (by rfl)) (by rfl) (by rfl) (by rfl) (by rfl) (by rfl)) (by rfl)))) (by intro _;rfl)) (@ah _ _ _ _ _ (@ay _ _ (14) _ _ _ _ bj.nd rfl (aaM rfl) (@aV _ _ _ _ (@ag _)) (by rfl) (by first|exact .inl rfl|exact .inr rfl|assumption)) (@ah _ _ _ _ _ (@b8 _ _ _ _ _ _ _ _ aa0 rfl (@cC _ _ _ _ _ _ rfl bY (@aa _ _ _ _ _ (@aq _ _ _ _ _ _ _ (@aJ _) (pv 5) (@af _ _ _ _) (fun _ _=>rfl)) (@ag _) (by rfl)) (by rfl)) (@bw _ _ (12) _ bj.nd rfl (aaM rfl) (by first|exact .inl rfl|exact .inr rfl|assumption)) (@ah _ _ _ _ _ (@ay _ _ (13) _ _ _ _ bj.nd rfl (aaM rfl) (@ao _ _ _ _ _ _ _ _ _ _ kg (hr.mono (by decide)) rfl (@aa _ _ _ _ _ (pv 8) (@aa _ _ _ _ _ (pv 3) (@aa _ _ _ _ _ (@af _ _ _ _) (@aa _ _ _ _ _ (pv 12) (@ag _) (by rfl)) (by rfl)) (by rfl)) (by rfl)) (by decide) (by rfl) (by rfl)) (by rfl) (by first|exact .inl rfl|exact .inr rfl|assumption)) (@ak _ _ _ (@bh _ _ _ _ (@bx _ _ _ _ _ _ _ _ _ _ _ _ aaD aaI aaL (@bg _) (pv 14) (@aa _ _ _ _ _ (@bD _ _ _ _ _ (@aa _ _ _ _ _ (@aq _ _ _ _ _ _ _ (@ar _) (pv 13) (@af _ _ _ _) (fun _ _=>rfl)) (@aa _ _ _ _ _ (@aq _ _ _ _ _ _ _ (@ar _) (pv 13) (@af _ _ _ _) (fun _ _=>rfl)) (@ag _) (by rfl)) (by rfl))) (@ag _) (by rfl)) (by rfl) (by rfl) (by rfl) (by rfl) (by rfl)) (by rfl)))) (by intro _;rfl)) (@ak _ _ _ (@aG _ _ _ _ (@bD _ _ _ _ _ (@aa _ _ _ _ _ (pv 6) (@aa _ _ _ _ _ (pv 7) (@aa _ _ _ _ _ (pv 11) (@aa _ _ _ _ _ (pv 10) (@aa _ _ _ _ _ (pv 14) (@ag _) (by rfl)) (by rfl)) (by rfl)) (by rfl)) (by rfl))))))))))))))))),?_⟩
 obtain⟨c0,c1,cr,rfl⟩:∃c0 c1 cr,cs=c0::c1::cr:=by
  match cs,yJ with
  | c0::c1::cr,_=>exact⟨c0,c1,cr,rfl⟩
 have Ra:(c1::cr).length≤100:=by simp only [aar] at Tv ⊢;omega
 have e0:lu ((c0::c1::cr).map V.int) 0=some (V.int c0):=bz (j:=0) rfl
 refine⟨_,rfl,lc,_,0,_,rfl,rfl,aL.of Q9,e0,_,rfl,c0,lm,ms,m,rfl,Yc,X8,hm2,hM1,hM4,Tw,fun lr na nb nc nd ne H1 s1 rJ hLr ⟨b1,b2,b3,b4,b5⟩ hab=>?_⟩
 refine⟨_,rfl,_,rfl,lc,_,rfl,aL.of (s1 _ _ Q9),fun Lz Qn=>?_⟩
 have eC:fQ ((c0::c1::cr).map V.int) (some 1) none=(c1::cr).map V.int:=lG (k:=1) (by simp)
 rw [eC]
 have t1:=aj Qn (.lst ((c1::cr).map V.int))
 have hC:=ae (H:=H1) (a:=Lz) (o:=.lst ((c1::cr).map V.int))
 have Tx:=t1 _ _ hLr
 have sA:=ai.trans s1 t1
 generalize upd H1 Lz (.lst ((c1::cr).map V.int))=H2 at t1 hC Tx sA ⊢
 obtain⟨kvs,hk,pk⟩:=Oi
 have zk:=aao pk
 have NY:=sA _ _ hk
 have pk2:Paired (Kind K H2) ks kvs:=ax pk fun _ _ _=>Kind.sm sA
 have PL:=hG.len
 refine⟨_,rfl,lk,rfl,⟨_,aL.of NY⟩,fun D hD=>?_⟩
 refine gF (K:=K) (xs:=kvs) ks Sz id (fun _ H f y=>Kind K H f y) (fun _ _ _ _ _ k h=>Kind.keep k h) (fun _ _ _ _ _ _ h=>h) (iC (by omega)) hD (aL.of NY) zk (fun i x b H' R hx hb sm hQ=>?_) (fun i x b H' R hx hb Vp sm hQ=>?_) (fun H3 ys3 s3 Ir po3=>?_)
 ·obtain⟨hi,ex⟩:=aN hx
  obtain⟨dw,eb⟩:=aN hb
  have wu:=paired_at pk2 i dw hi
  rw [ex,eb] at wu
  obtain⟨t,rfl,ht⟩:=wu
  exact⟨_,rfl,t,_,2,_,rfl,rfl,ht.same sm,rfl,_,rfl,hQ _ (ai.refl _)⟩
 ·obtain⟨hi,ex⟩:=aN hx
  obtain⟨dw,eb⟩:=aN hb
  have wu:=paired_at pk2 i dw hi
  rw [ex,eb] at wu
  exact⟨_,rfl,hQ _ _ (ai.refl _) (Kind.sm sm wu)⟩
 rw [acr] at po3
 have sB:=ai.trans sA s3
 have Yd:=s3 _ _ Tx
 have hC3:=s3 _ _ hC
 have szN:(os.map tx).length+(ws.map tx).length≤aaj:=by rw [Lm9,Lm9,aax];omega
 have hNl:(os++ws).length≤20∧1≤(os++ws).length:=by rw [aag];omega
 have AI:∀p:Kd→Bool,(∃k∈ks,p k=true)→1≤(ks.filter p).length∧(ks.filter p).length≤100∧∀k∈ks.filter p,k.c≤4:=fun p ⟨k,hk,hp⟩=>by
  have z:k∈ks.filter p:=abf.mpr ⟨hk,hp⟩
  have z1:1≤(ks.filter p).length:=by
   cases e:ks.filter p with
   | nil=>rw [e] at z;cases z
   | cons a r=>simp
  have z2:(ks.filter p).length≤ks.length:=abK _ _
  exact⟨z1,by omega,fun k hk=>(hG.ok k (abf.mp hk).1).2⟩
 have fP:=AI Sz (by obtain⟨k,hk,e⟩:=hG.no;exact⟨k,hk,by unfold Sz;rw [e];rfl⟩)
 have fL:=AI (·.l) (by obtain⟨k,hk,e⟩:=hG.yes;exact⟨k,hk,e⟩)
 refine⟨_,rfl,_,rfl,lo,lw,_,_,rfl,rfl,sB _ _ hlo,sB _ _ Q8,szN,fun Ye HH=>?_⟩
 rw [← aat]
 have t4:=aj HH (.lst ((os++ws).map tx))
 have hn4:=ae (H:=H3) (a:=Ye) (o:=.lst ((os++ws).map tx))
 generalize upd H3 Ye (.lst ((os++ws).map tx))=H4 at t4 hn4 ⊢
 have sC:=ai.trans sB t4
 have Tz:=t4 _ _ Yd
 have hC4:=t4 _ _ hC3
 refine⟨_,rfl,_,rfl,lr,_,0,_,rfl,rfl,aL.of Tz,rfl,?_⟩
 refine⟨D,Ye,Lz,ks.filter Sz,os++ws,c1::cr,0,na,rfl,⟨ys3,t4 _ _ Ir,ax po3 fun _ _ _=>Kind.sm t4⟩,fP.1,fP.2.1,fP.2.2,hn4,hNl.2,(by omega),aL.of hC4,(by simp),Ra,by decide,(by omega),fun la take H5 s5 hla hA Hf hAf=>?_⟩
 have sD:=ai.trans sC s5
 have Yf:=s5 _ _ Tz
 have Yg:=s5 _ _ hC4
 refine⟨_,rfl,_,rfl,_,rfl,lo,lw,_,_,rfl,rfl,sD _ _ hlo,sD _ _ Q8,szN,fun ln2 MO=>?_⟩
 rw [← aat]
 have t6:=aj MO (.lst ((os++ws).map tx))
 have S9:=ae (H:=H5) (a:=ln2) (o:=.lst ((os++ws).map tx))
 generalize upd H5 ln2 (.lst ((os++ws).map tx))=H6 at t6 S9 ⊢
 have sE:=ai.trans sD t6
 have Qo:=t6 _ _ Yf
 have hC6:=t6 _ _ Yg
 refine⟨_,rfl,_,rfl,lr,_,0,_,rfl,rfl,aL.of Qo,rfl,_,rfl,lr,_,1,_,rfl,rfl,aL.of Qo,rfl,?_⟩
 refine⟨lk,ln2,Lz,ks,os++ws,c1::cr,na,nb,rfl,⟨kvs,sE _ _ hk,ax pk fun _ _ _=>Kind.sm sE⟩,(by omega),(by omega),(fun k hk=>(hG.ok k hk).2),S9,hNl.2,(by omega),aL.of hC6,(by simp),Ra,(by omega),(by omega),fun lb keep H7 s7 hlb hB hbl hBf=>?_⟩
 have sF:=ai.trans sE s7
 have hA7:=hA.sm (ai.trans t6 s7)
 obtain⟨TC,ha7,pa7⟩:=id hA7
 obtain⟨TF,hb7,pb7⟩:=id hB
 have za:=aao pa7
 have zb:=aao pb7
 refine⟨_,rfl,_,rfl,la,lb,_,_,rfl,rfl,ha7,hb7,(by rw [aax];omega),fun Vt Yh=>?_⟩
 have t8:=aj Yh (.lst (TC++TF))
 have TH:=ae (H:=H7) (a:=Vt) (o:=.lst (TC++TF))
 have pab:Paired (Fact K (upd H7 Vt (.lst (TC++TF)))) (take++keep) (TC++TF):=ax (a7 pa7 pb7) fun _ _ _=>Fact.sm t8
 generalize upd H7 Vt (.lst (TC++TF))=H8 at t8 TH pab ⊢
 have Yi:∀g∈take++keep,MA ks (os++ws) g:=fun g hg=>by
  rcases aaq.mp hg with z|z
  ·obtain⟨⟨k,hk,e⟩,ha⟩:=hAf g z
   exact⟨⟨k,(abf.mp hk).1,e⟩,ha⟩
  ·exact hBf g z
 have hgs:∀g∈take++keep,g.as.length≤4∧∀a∈g.as,aD a=true:=fun g hg=>by
  obtain⟨⟨k,hk,_,e2⟩,ha⟩:=Yi g hg
  exact⟨by rw [e2];exact(hG.ok k hk).2,fun a h=>hN a (ha a h)⟩
 have MQ:(take++keep).length≤8:=by rw [aag];omega
 refine⟨Vt,take++keep,rfl,⟨_,TH,pab⟩,(by omega),hgs,fun lh H9 s9 hlh Yj=>?_⟩
 have UY:(opens (take++keep)).length≤32:=vK (fun g hg=>(hgs g hg).1) MQ (jm _)
 have s79:=ai.trans t8 s9
 have sG:=ai.trans sF s79
 refine⟨_,rfl,lh,lw,_,_,rfl,rfl,Yj,sG _ _ Q8,(by rw [Lm9,Lm9,aax];omega),fun Oj KY=>?_⟩
 rw [← aat]
 have Yk:=aj KY (.lst ((opens (take++keep)++ws).map tx))
 have Qp:=ae (H:=H9) (a:=Oj) (o:=.lst ((opens (take++keep)++ws).map tx))
 generalize upd H9 Oj (.lst ((opens (take++keep)++ws).map tx))=Rb at Yk Qp ⊢
 have MR:=ai.trans s79 Yk
 have sH:=ai.trans sG Yk
 have TJ:=MR _ _ (s7 _ _ hC6)
 have TK:=MR _ _ (s7 _ _ Qo)
 have TL:=hA7.sm MR
 have Yl:=hB.sm MR
 have TM:nC K Rb lk ks:=⟨kvs,sH _ _ hk,ax pk fun _ _ _=>Kind.sm sH⟩
 refine⟨_,rfl,?_⟩
 refine bW ?_
 dsimp only
 refine dE (Good:=fun σ' H'=>ai Rb H'∧∃Rc,nC K H' Rc (if take=[] then ks.filter (·.l) else ks)∧σ'=[some (.ref lk),some (.ref lo),some (.ref lw),some (.ref Lz),some (.ref lm),some (.ref lr),some (.ref la),some (.ref lb),some (.ref Oj),some (.ref Rc),none,none,none,none,none]) (fun fin=>?_) (fun σ' Ym hg=>?_)
 ·obtain⟨Ol,Yn,Yo⟩:=id TL
  have z10:=aao Yo
  refine⟨_,rfl,la,_,rfl,.inl (aL.of Yn),rfl,?_⟩
  refine⟨_,rfl,?_⟩
  by_cases h0:take=[]
  ·have e:Ol.length=0:=by rw [← z10,h0];rfl
   rw [e,decide_eq_true (show V.int ((0:Nat):Int)=V.int 0 from rfl)]
   refine cL ?_
   obtain⟨kv,Vg,Yp⟩:=id TM
   have zkv:=aao Yp
   refine⟨_,rfl,lk,rfl,⟨_,aL.of Vg⟩,fun D2 kO=>?_⟩
   refine gF (K:=K) (xs:=kv) ks (·.l) id (fun _ H f y=>Kind K H f y) (fun _ _ _ _ _ k h=>Kind.keep k h) (fun _ _ _ _ _ _ h=>h) (iC (by omega)) kO (aL.of Vg) zkv (fun i x b H' R hx hb sm hQ=>?_) (fun i x b H' R hx hb Vp sm hQ=>?_) (fun H' QO s' hL' po'=>?_)
   ·obtain⟨hi,ex⟩:=aN hx
    obtain⟨dw,eb⟩:=aN hb
    have wu:=paired_at Yp i dw hi
    rw [ex,eb] at wu
    obtain⟨t,rfl,ht⟩:=wu
    exact⟨_,rfl,t,_,2,_,rfl,rfl,ht.same sm,rfl,_,rfl,hQ _ (ai.refl _)⟩
   ·obtain⟨hi,ex⟩:=aN hx
    obtain⟨dw,eb⟩:=aN hb
    have wu:=paired_at Yp i dw hi
    rw [ex,eb] at wu
    exact⟨_,rfl,hQ _ _ (ai.refl _) (Kind.sm sm wu)⟩
   ·rw [acr] at po'
    exact fin _ H' ⟨s',D2,by rw [if_pos h0];exact⟨QO,hL',po'⟩,rfl⟩
  ·have e:Ol.length≠0:=fun e=>h0 (aa2 (by omega))
   rw [decide_eq_false (fun z=>e (by have:=V.int.inj z;omega))]
   exact bo (fin _ Rb ⟨ai.refl _,lk,by rw [if_neg h0];exact TM,rfl⟩)
 obtain⟨MS,Rc,Vu,rfl⟩:=hg
 have hsz:1≤(if take=[] then ks.filter (·.l) else ks).length∧(if take=[] then ks.filter (·.l) else ks).length≤100∧∀k∈(if take=[] then ks.filter (·.l) else ks),k.c≤4:=by
  split
  ·exact fL
  ·exact⟨by omega,by omega,fun k hk=>(hG.ok k hk).2⟩
 have Qq:(opens (take++keep)++ws).length≤100∧1≤(opens (take++keep)++ws).length:=by rw [aag];omega
 have Om:=MS _ _ TK
 refine⟨_,rfl,_,rfl,_,rfl,_,rfl,lr,_,2,_,rfl,rfl,aL.of Om,rfl,?_⟩
 refine⟨Rc,Oj,Lz,_,opens (take++keep)++ws,c1::cr,2,nc,rfl,Vu,hsz.1,hsz.2.1,hsz.2.2,MS _ _ Qp,Qq.2,Qq.1,aL.of (MS _ _ TJ),(by simp),Ra,by decide,(by omega),fun lg put Yq xj Rf hGv SM hGf=>?_⟩
 have K2:=ai.trans MS xj
 have Oo:=xj _ _ Om
 have Qr:=K2 _ _ Qp
 have TN:=K2 _ _ TJ
 have Yr:=TL.sm K2
 have Ys:=Yl.sm K2
 have sI:=ai.trans sH K2
 refine⟨(by show 0≤aaj;decide),fun ll U9=>?_⟩
 have t13:=aj U9 (.lst [])
 have Yt:=ae (H:=Yq) (a:=ll) (o:=.lst [])
 generalize Yu:opens (take++keep)++ws=NN at Qr Qq hGf
 refine⟨_,rfl,lr,_,3,_,rfl,rfl,aL.of (t13 _ _ Oo),rfl,?_⟩
 refine⟨(nd:Int),rfl,by omega,by omega,?_⟩
 rw [show((nd:Nat):Int).toNat=nd from abr _]
 refine gB (lo:=0) (n:=nd) (fun i σ H'=>ai Yq H'∧∃(LC:List Lk) (vs:List V) (TQ TR:Option V),H' ll=some (.lst vs)∧Paired (nQ K H') LC vs∧LC.length=i∧(∀k∈LC,k.l∈NN∧k.r∈NN)∧σ=[some (.ref lk),some (.ref lo),some (.ref lw),some (.ref Lz),some (.ref lm),some (.ref lr),some (.ref la),some (.ref lb),some (.ref Oj),some (.ref Rc),some (.ref lg),some (.ref ll),TQ,TR,none]) ⟨t13,[],[],none,none,Yt,.nil,rfl,(fun k hk=>nomatch hk),rfl⟩ ?_ ?_
 ·rintro i σ H' hi ⟨sm,LC,vs,TQ,TR,hL,pl,hlen,LZ,rfl⟩
  have zl:=aao pl
  refine⟨_,rfl,_,rfl,_,rfl,?_⟩
  refine⟨Oj,Lz,NN,c1::cr,1,i,(by rw [acG];rfl),sm _ _ Qr,Qq.2,Qq.1,aL.of (sm _ _ TN),(by simp),Ra,by decide,(by omega),fun t a b n H2 s2 ha hb GV ht=>?_⟩
  have vP:=s2 _ _ hL
  refine⟨_,rfl,.inl ⟨rfl,_,aL.of vP⟩,_,rfl,t,_,0,_,rfl,rfl,ht,rfl,(by show 2≤aaj;decide),fun l2 i8=>?_⟩
  have t3:=aj i8 (.lst [V.str (aaf "same"),V.str (aaf "unlike")])
  have hl2':=ae (H:=H2) (a:=l2) (o:=.lst [V.str (aaf "same"),V.str (aaf "unlike")])
  generalize upd H2 l2 (.lst [V.str (aaf "same"),V.str (aaf "unlike")])=H3 at t3 hl2' ⊢
  have Yv:lu [V.str (aaf "same"),V.str (aaf "unlike")] (n:Int)=some (tx (gK (decide (n=0)))):=GA GV
  refine⟨_,rfl,t,_,2,_,rfl,rfl,ht.same t3,rfl,l2,_,_,_,rfl,rfl,aL.of hl2',Yv,_,rfl,t,_,1,_,rfl,rfl,ht.same t3,rfl,(by show 3≤aaj;decide),fun t2 qo=>?_⟩
  have t4:=aj qo (.tup [tx a,tx (gK (decide (n=0))),tx b])
  have hu:=ae (H:=H3) (a:=t2) (o:=.tup [tx a,tx (gK (decide (n=0))),tx b])
  generalize upd H3 t2 (.tup [tx a,tx (gK (decide (n=0))),tx b])=H4 at t4 hu ⊢
  have Iv:=ai.trans s2 (ai.trans t3 t4)
  have Eg:=Iv _ _ hL
  refine⟨ll,_,_,rfl,rfl,Eg,(by rw [aax];omega),?_⟩
  refine⟨ai.aR (ai.trans sm Iv) U9 _,LC++[⟨decide (n=0),a,b⟩],vs++[.ref t2],_,_,ae,?_,by simp [hlen],fun k hk=>?_,rfl⟩
  ·refine a7 (ax pl fun k b _ hk=>?_) (.cons ⟨t2,rfl,cT Eg (bT.of hu)⟩ .nil)
   obtain⟨t,e,h⟩:=nQ.sm Iv hk
   exact⟨t,e,cT Eg h⟩
  ·rcases aaq.mp hk with z|z
   ·exact LZ k z
   ·rw [aal.mp z]
    exact⟨ha,hb⟩
 rintro σ Yw ⟨Lv,LC,vs,TQ,TR,Yx,Yy,Yz,TU,rfl⟩
 refine⟨(by show 0≤aaj;decide),fun lp E9=>?_⟩
 have t14:=aj E9 (.lst [])
 have YA:=ae (H:=Yw) (a:=lp) (o:=.lst [])
 have TV:=Lv _ _ Oo
 have YB:=Lv _ _ Qr
 have YC:=Lv _ _ TN
 refine⟨_,rfl,lr,_,4,_,rfl,rfl,aL.of (t14 _ _ TV),rfl,?_⟩
 refine⟨(ne:Int),rfl,by omega,by omega,?_⟩
 rw [show((ne:Nat):Int).toNat=ne from abr _]
 refine gB (lo:=0) (n:=ne) (fun i σ H'=>ai Yw H'∧∃(ps:List (Cs × Cs)) (vs:List V) (TQ TR:Option V),H' lp=some (.lst vs)∧Paired (Pair K H') ps vs∧ps.length=i∧(∀k∈ps,k.1∈NN∧k.2∈NN)∧σ=[some (.ref lk),some (.ref lo),some (.ref lw),some (.ref Lz),some (.ref lm),some (.ref lr),some (.ref la),some (.ref lb),some (.ref Oj),some (.ref Rc),some (.ref lg),some (.ref ll),TQ,TR,some (.ref lp)]) ⟨t14,[],[],_,_,YA,.nil,rfl,(fun k hk=>nomatch hk),rfl⟩ ?_ ?_
 ·rintro i σ H' hi ⟨sm,YD,vs',YE,YF,hL,pl,hlen,LZ,rfl⟩
  have zl:=aao pl
  refine⟨_,rfl,_,rfl,_,rfl,?_⟩
  refine⟨Oj,Lz,NN,c1::cr,4,i,(by rw [acG];rfl),sm _ _ YB,Qq.2,Qq.1,aL.of (sm _ _ YC),(by simp),Ra,by decide,(by omega),fun t a b n H2 s2 ha hb GV ht=>?_⟩
  have vP:=s2 _ _ hL
  refine⟨_,rfl,.inl ⟨rfl,_,aL.of vP⟩,_,rfl,t,_,0,_,rfl,rfl,ht,rfl,_,rfl,t,_,1,_,rfl,rfl,ht,rfl,(by show 2≤aaj;decide),fun t2 qo=>?_⟩
  have t4:=aj qo (.tup [tx a,tx b])
  have hu:=ae (H:=H2) (a:=t2) (o:=.tup [tx a,tx b])
  generalize upd H2 t2 (.tup [tx a,tx b])=H4 at t4 hu ⊢
  have Iv:=ai.trans s2 t4
  have Eg:=Iv _ _ hL
  refine⟨lp,_,_,rfl,rfl,Eg,(by rw [aax];omega),?_⟩
  refine⟨ai.aR (ai.trans sm Iv) E9 _,YD++[(a,b)],vs'++[.ref t2],_,_,ae,?_,by simp [hlen],fun k hk=>?_,rfl⟩
  ·refine a7 (ax pl fun k b _ ⟨t,e,h⟩=>⟨t,e,cT Eg (h.same Iv)⟩) (.cons ⟨t2,rfl,cT Eg (bT.of hu)⟩ .nil)
  ·rcases aaq.mp hk with z|z
   ·exact LZ k z
   ·rw [aal.mp z]
    exact⟨ha,hb⟩
 rintro σ H14 ⟨Lw,ps,vs4,YE,YF,YG,YH,YI,TX,rfl⟩
 have TY:=ai.trans Lv Lw
 refine⟨_,rfl,_,rfl,_,rfl,_,rfl,_,rfl,(by show 5≤aaj;decide),fun t ht=>?_⟩
 have Of:=aj ht (.tup [.ref la,.ref lb,.ref ll,.ref lg,.ref lp])
 have Og:=ai.trans TY Of
 have Oq:=ai.trans Lw Of
 refine q t ⟨[],take,keep,LC,put,ps⟩ _ (ai.trans sI Og) ⟨la,lb,ll,lg,lp,bT.of ae,⟨?_,?_,?_,?_,?_⟩,Yr.sm Og,Ys.sm Og,⟨vs,Oq _ _ Yx,ax Yy fun _ _ _=>nQ.sm Oq⟩,hGv.sm Og,⟨vs4,Of _ _ YG,ax YH fun _ _ _ ⟨t,e,z⟩=>⟨t,e,z.same Of⟩⟩⟩ ⟨hAf,hBf,?_,?_,?_,?_,?_⟩ ?_
 ·exact sC.free hla
 ·exact sE.free hlb
 ·exact sI.free U9
 ·exact(ai.trans sH MS).free Rf
 ·exact(ai.trans sI Lv).free E9
 ·show ∀f∈put,MA (if take=[] then ks.filter (·.l) else ks) (opens (take++keep)++ws) f
  rw [Yu]
  exact hGf
 ·show ∀k∈LC,k.l∈opens (take++keep)++ws∧k.r∈opens (take++keep)++ws
  rw [Yu]
  exact TU
 ·show ∀k∈ps,k.1∈opens (take++keep)++ws∧k.2∈opens (take++keep)++ws
  rw [Yu]
  exact TX
 ·show 1≤take.length+keep.length
  omega
 ·show take.length≤4∧keep.length≤4∧LC.length≤4∧put.length≤4∧ps.length≤4
  omega
 ·show take.length≤m∧keep.length≤m∧LC.length≤m∧put.length≤m∧ps.length≤m
  omega
end
end ft
namespace ft
open PySem L2 cR Bk
set_option maxHeartbeats 4000000
section
variable {P:aaS} {w:abg} {K:aae} {mg:Str→Option aai} {base:Heap} {f:aaB} {fd:aa9} {c:Cl}
theorem ix:aC ["_law_title","_law_rule_here","_law_rows"] ["_law_title","_law_rule_here"] (au fB):=⟨rfl,rfl,rfl,by decide +kernel,rfl,by decide +kernel,by decide +kernel⟩
theorem qy (F:dn K "_law_rule_text" "_law_rule_text" fB f fd) (dv:dz P w K mg base "_law_fact_text" 1 ["_law_fact_here"] (Gm K)) (aY:mg "len"=none) (vW:mg "list"=none):a4 P w K mg base dJ 2 f fd ["_law_title","_law_rule_here"] (Dg K):=by
 refine F.ok ix (fun vs H Q E h=>?_) (fun cJ A outer s H vs Q E hr h=>?_)
 ·obtain⟨t,r,rfl,_⟩:=h
  rfl
 obtain⟨t,r,rfl,⟨a,b,l,g,p,ht,hA,hB,hLk,hG,hPr⟩,hT,q⟩:=h
 refine⟨_,(@ah _ _ _ _ _ (@ay _ _ (2) _ _ _ _ ix.nd rfl (aaM rfl) (@aV _ _ _ _ (@ag _)) (by rfl) (by first|exact .inl rfl|exact .inr rfl|assumption)) (@ah _ _ _ _ _ (@aX _ _ _ _ _ _ _ _ (@aE _ _ _ _ _ _ _ _ (@lD _) (@aK _ _ _ _ _ _ _ _ _ (@aB _) rfl aY aaF (@aa _ _ _ _ _ (@aq _ _ _ _ _ _ _ (@ar _) (pv 1) (@af _ _ _ _) (fun _ _=>rfl)) (@ag _) (by rfl)) (by decide) (by decide) (by rfl) (by rfl)) (@af _ _ _ _) (aM _)) (@ak _ _ _ (@bh _ _ _ _ (@bx _ _ _ _ _ _ _ _ _ _ _ _ aaD aaI aaL (@bg _) (pv 2) (@aa _ _ _ _ _ (@aw _ _ _ _ _ _ _ _ (@aQ _) (@aF _ _ _ _) (@bx _ _ _ _ _ _ _ _ _ _ _ _ aaC aaO aaP (@cf _) (@aF _ _ _ _) (@aa _ _ _ _ _ (@bG _ _ _ _ _ _ _ _ _ _ _ [] rfl (by kernel_rfl) (@aT _ _ _ _ (@aq _ _ _ _ _ _ _ (@ar _) (pv 1) (@af _ _ _ _) (fun _ _=>rfl))) (fun _ _ _ _ _=>(@bE _)) (fun _ _ _ _ _=>(@ao _ _ _ _ _ _ _ _ _ _ dv (hr.mono (by decide)) rfl (@aa _ _ _ _ _ (pv 0) (@ag _) (by rfl)) (by decide) (by rfl) (by rfl))) (by intro _;rfl)) (@ag _) (by rfl)) (by rfl) (by rfl) (by rfl) (by rfl) (by rfl))) (@ag _) (by rfl)) (by rfl) (by rfl) (by rfl) (by rfl) (by rfl)) (by rfl))) (@aI _)) (@ah _ _ _ _ _ (@aX _ _ _ _ _ _ _ _ (@aE _ _ _ _ _ _ _ _ (@lD _) (@aK _ _ _ _ _ _ _ _ _ (@aB _) rfl aY aaF (@aa _ _ _ _ _ (@aq _ _ _ _ _ _ _ (@ar _) (pv 1) (@af _ _ _ _) (fun _ _=>rfl)) (@ag _) (by rfl)) (by decide) (by decide) (by rfl) (by rfl)) (@af _ _ _ _) (aM _)) (@ak _ _ _ (@bh _ _ _ _ (@bx _ _ _ _ _ _ _ _ _ _ _ _ aaD aaI aaL (@bg _) (pv 2) (@aa _ _ _ _ _ (@aw _ _ _ _ _ _ _ _ (@aQ _) (@aF _ _ _ _) (@bx _ _ _ _ _ _ _ _ _ _ _ _ aaC aaO aaP (@cf _) (@aF _ _ _ _) (@aa _ _ _ _ _ (@bG _ _ _ _ _ _ _ _ _ _ _ [] rfl (by kernel_rfl) (@aT _ _ _ _ (@aq _ _ _ _ _ _ _ (@ar _) (pv 1) (@af _ _ _ _) (fun _ _=>rfl))) (fun _ _ _ _ _=>(@bE _)) (fun _ _ _ _ _=>(@ao _ _ _ _ _ _ _ _ _ _ dv (hr.mono (by decide)) rfl (@aa _ _ _ _ _ (pv 0) (@ag _) (by rfl)) (by decide) (by rfl) (by rfl))) (by intro _;rfl)) (@ag _) (by rfl)) (by rfl) (by rfl) (by rfl) (by rfl) (by rfl))) (@ag _) (by rfl)) (by rfl) (by rfl) (by rfl) (by rfl) (by rfl)) (by rfl))) (@aI _)) (@ah _ _ _ _ _ (@aX _ _ _ _ _ _ _ _ (@aE _ _ _ _ _ _ _ _ (@lD _) (@aK _ _ _ _ _ _ _ _ _ (@aB _) rfl aY aaF (@aa _ _ _ _ _ (@aq _ _ _ _ _ _ _ (@ar _) (pv 1) (@af _ _ _ _) (fun _ _=>rfl)) (@ag _) (by rfl)) (by decide) (by decide) (by rfl) (by rfl)) (@af _ _ _ _) (aM _)) (@ak _ _ _ (@bh _ _ _ _ (@bx _ _ _ _ _ _ _ _ _ _ _ _ aaD aaI aaL (@bg _) (pv 2) (@aa _ _ _ _ _ (@aw _ _ _ _ _ _ _ _ (@aQ _) (@aF _ _ _ _) (@bx _ _ _ _ _ _ _ _ _ _ _ _ aaC aaO aaP (@cf _) (@aF _ _ _ _) (@aa _ _ _ _ _ (@bG _ _ _ _ _ _ _ _ _ _ _ [] rfl (by kernel_rfl) (@aT _ _ _ _ (@aq _ _ _ _ _ _ _ (@ar _) (pv 1) (@af _ _ _ _) (fun _ _=>rfl))) (fun _ _ _ _ _=>(@bE _)) (fun _ _ _ _ _=>(id (α:=PE _ _ (UQ K "str" (rJoin K) _ _)) (bx aaC aaO aaP cf aF (aa (cX (CQ (K:=K) rfl) rfl vW PyProof.Rows.Boot.«list» (aa (pv 0) ag)) ag)))) (by intro _;rfl)) (@ag _) (by rfl)) (by rfl) (by rfl) (by rfl) (by rfl) (by rfl))) (@ag _) (by rfl)) (by rfl) (by rfl) (by rfl) (by rfl) (by rfl)) (by rfl))) (@aI _)) (@ah _ _ _ _ _ (@aX _ _ _ _ _ _ _ _ (@aE _ _ _ _ _ _ _ _ (@lD _) (@aK _ _ _ _ _ _ _ _ _ (@aB _) rfl aY aaF (@aa _ _ _ _ _ (@aq _ _ _ _ _ _ _ (@ar _) (pv 1) (@af _ _ _ _) (fun _ _=>rfl)) (@ag _) (by rfl)) (by decide) (by decide) (by rfl) (by rfl)) (@af _ _ _ _) (aM _)) (@ak _ _ _ (@bh _ _ _ _ (@bx _ _ _ _ _ _ _ _ _ _ _ _ aaD aaI aaL (@bg _) (pv 2) (@aa _ _ _ _ _ (@aw _ _ _ _ _ _ _ _ (@aQ _) (@aF _ _ _ _) (@bx _ _ _ _ _ _ _ _ _ _ _ _ aaC aaO aaP (@cf _) (@aF _ _ _ _) (@aa _ _ _ _ _ (@bG _ _ _ _ _ _ _ _ _ _ _ [] rfl (by kernel_rfl) (@aT _ _ _ _ (@aq _ _ _ _ _ _ _ (@ar _) (pv 1) (@af _ _ _ _) (fun _ _=>rfl))) (fun _ _ _ _ _=>(@bE _)) (fun _ _ _ _ _=>(@ao _ _ _ _ _ _ _ _ _ _ dv (hr.mono (by decide)) rfl (@aa _ _ _ _ _ (pv 0) (@ag _) (by rfl)) (by decide) (by rfl) (by rfl))) (by intro _;rfl)) (@ag _) (by rfl)) (by rfl) (by rfl) (by rfl) (by rfl) (by rfl))) (@ag _) (by rfl)) (by rfl) (by rfl) (by rfl) (by rfl) (by rfl)) (by rfl))) (@aI _)) (@ah _ _ _ _ _ (@aX _ _ _ _ _ _ _ _ (@aE _ _ _ _ _ _ _ _ (@lD _) (@aK _ _ _ _ _ _ _ _ _ (@aB _) rfl aY aaF (@aa _ _ _ _ _ (@aq _ _ _ _ _ _ _ (@ar _) (pv 1) (@af _ _ _ _) (fun _ _=>rfl)) (@ag _) (by rfl)) (by decide) (by decide) (by rfl) (by rfl)) (@af _ _ _ _) (aM _)) (@ak _ _ _ (@bh _ _ _ _ (@bx _ _ _ _ _ _ _ _ _ _ _ _ aaD aaI aaL (@bg _) (pv 2) (@aa _ _ _ _ _ (@aw _ _ _ _ _ _ _ _ (@aQ _) (@aF _ _ _ _) (@bx _ _ _ _ _ _ _ _ _ _ _ _ aaC aaO aaP (@cf _) (@aF _ _ _ _) (@aa _ _ _ _ _ (@bG _ _ _ _ _ _ _ _ _ _ _ [] rfl (by kernel_rfl) (@aT _ _ _ _ (@aq _ _ _ _ _ _ _ (@ar _) (pv 1) (@af _ _ _ _) (fun _ _=>rfl))) (fun _ _ _ _ _=>(@bE _)) (fun _ _ _ _ _=>(@aw _ _ _ _ _ _ _ _ (@aQ _) (@aw _ _ _ _ _ _ _ _ (@aQ _) (@aq _ _ _ _ _ _ (nA K) (@ar _) (pv 0) (@af _ _ _ _) (fun _ _=>rfl)) (@aF _ _ _ _)) (@aq _ _ _ _ _ _ (nA K) (@ar _) (pv 0) (@af _ _ _ _) (fun _ _=>rfl)))) (by intro _;rfl)) (@ag _) (by rfl)) (by rfl) (by rfl) (by rfl) (by rfl) (by rfl))) (@ag _) (by rfl)) (by rfl) (by rfl) (by rfl) (by rfl) (by rfl)) (by rfl))) (@aI _)) (@ak _ _ _ (@aG _ _ _ _ (@aw _ _ _ _ _ _ _ _ (@aQ _) (@aw _ _ _ _ _ _ _ _ (@aQ _) (@aw _ _ _ _ _ _ _ _ (@aQ _) (@aF _ _ _ _) (pv 0)) (@aF _ _ _ _)) (@bx _ _ _ _ _ _ _ _ _ _ _ _ aaC aaO aaP (@cf _) (@aF _ _ _ _) (@aa _ _ _ _ _ (pv 2) (@ag _) (by rfl)) (by rfl) (by rfl) (by rfl) (by rfl) (by rfl))))))))))),?_⟩
 refine⟨(by show 0≤aaj;decide),fun lr rJ=>?_⟩
 have s1:=aj rJ (.lst [])
 have HE:=ae (H:=H) (a:=lr) (o:=.lst [])
 generalize upd H lr (.lst [])=H1 at s1 HE ⊢
 refine bW ?_
 dsimp only
 have ec:(aaf ", ").length=2:=by decide +kernel
 have es:(aaf " ").length=1:=by decide +kernel
 have es0:(aaf " ")=S [32]:=by decide +kernel
 have ee:(aaf " = ").length=3:=by decide +kernel
 have ee0:(aaf " = ")=S [32,61,32]:=by decide +kernel
 have oP:=hT.EV
 have few:=hT.few
 have YJ:(aZ bJ (r.take.map aA)).length≤1:=by
  have p1:=aW bJ (r.take.map aA)
  have p2:=aW bR (r.keep.map aA)
  have p3:=aW bN (r.aO.map bF)
  have p4:=aW dA (r.put.map aA)
  have p5:=aW cn (r.tell.map bL)
  try simp only [aag]
  omega
 refine dE (Good:=fun σ' H'=>ai H H'∧H' lr=some (.lst ((aZ bJ (r.take.map aA)).map tx))∧σ'=[some (tx r.title),some (.ref t),some (.ref lr)]) (fun fin=>?_) (fun σ' H2 hg=>?_)
 ·obtain⟨xs,hx,px⟩:=hA.sm s1
  have zx:=aao px
  have bd:(bA (r.take.map aA)).length≤2100:=(oP (bJ,bA (r.take.map aA)) (by unfold dY;simp)).2
  refine⟨_,rfl,t,_,0,_,rfl,rfl,ht.same s1,rfl,a,_,rfl,.inl (aL.of hx),_,_,rfl,rfl,_,rfl,?_⟩
  by_cases h0:r.take=[]
  ·have e:xs.length=0:=by rw [← zx,h0];rfl
   rw [e,decide_eq_false (show ¬ (0:Int)<((0:Nat):Int) by decide)]
   refine bo (fin _ _ ⟨s1,?_,rfl⟩)
   rw [HE,h0]
   simp [aZ]
  ·have e:(0:Int)<((xs.length:Nat):Int):=by
    have:r.take.length≠0:=fun z=>h0 (aa2 z)
    omega
   rw [decide_eq_true e]
   refine cL ?_
   refine⟨_,rfl,.inl ⟨rfl,_,aL.of HE⟩,rfl,_,rfl,t,_,0,_,rfl,rfl,ht.same s1,rfl,a,rfl,⟨_,aL.of hx⟩,fun D hD=>?_⟩
   refine cS (K:=K) (xs:=xs) (r.take.map aA) (fun _ _ b y=>y=tx b) (fun _ _ _ _ _ _ h=>h) (fun _ _ _ _ _ _ h=>h) (iC (by omega)) hD (aL.of hx) (by rw [Lm9];exact zx) (fun i y b H' R hy hb sm hQ=>?_) (fun H9 ys s9 hL po=>?_)
   ·obtain⟨hi,ey⟩:=aN hy
    obtain⟨dw,eb⟩:=aN hb
    rw [Lm9] at dw
    rw [aaG] at eb
    have hK:=paired_at px i dw hi
    rw [ey] at hK
    have hF:=(hT.f _ (aas _ (aap dw))).fn
    exact⟨_,rfl,y,_,rfl,Fact.sm sm hK,hF,hQ _ _ (ai.refl _) (by rw [← eb])⟩
   rw [cq po] at hL
   have l1:=dk (as:=r.take.map aA) (B:=100) (fun x hx=>by
    obtain⟨k,hk,rfl⟩:=aay.mp hx
    exact uQ (hT.f _ (aas _ hk)))
   rw [Lm9] at l1
   refine⟨_,D,(r.take.map aA).map S,rfl,rfl,.inl (aL.of (by rw [← dX];exact hL)),(by rw [Lm9,Lm9,ec];omega),?_⟩
   rw [jG]
   have ew:(aaf "take ")=S (bJ++[32]):=by decide +kernel
   have ek:(bJ++[32]).length≤5:=by decide
   refine⟨_,_,rfl,rfl,(by rw [ew,aS,aS,aax];omega),?_⟩
   rw [ew,di]
   have hL9:=s9 _ _ HE
   refine⟨lr,_,_,rfl,rfl,hL9,?_,?_⟩
   ·show 0<aaj;decide
   ·refine fin _ _ ⟨ai.aR (ai.trans s1 s9) rJ _,?_,rfl⟩
    rw [ae]
    unfold aZ
    rw [if_neg (show ¬ r.take.map aA=[] by simpa using h0)]
    simp
 obtain⟨s2,Q6,rfl⟩:=hg
 have YK:(aZ bJ (r.take.map aA)++aZ bR (r.keep.map aA)).length≤2:=by
  have p1:=aW bJ (r.take.map aA)
  have p2:=aW bR (r.keep.map aA)
  have p3:=aW bN (r.aO.map bF)
  have p4:=aW dA (r.put.map aA)
  have p5:=aW cn (r.tell.map bL)
  try simp only [aag]
  omega
 refine dE (Good:=fun σ' H'=>ai H H'∧H' lr=some (.lst ((aZ bJ (r.take.map aA)++aZ bR (r.keep.map aA)).map tx))∧σ'=[some (tx r.title),some (.ref t),some (.ref lr)]) (fun fin=>?_) (fun σ' H3 hg=>?_)
 ·obtain⟨xs,hx,px⟩:=hB.sm s2
  have zx:=aao px
  have bd:(bA (r.keep.map aA)).length≤2100:=(oP (bR,bA (r.keep.map aA)) (by unfold dY;simp)).2
  refine⟨_,rfl,t,_,1,_,rfl,rfl,ht.same s2,rfl,b,_,rfl,.inl (aL.of hx),_,_,rfl,rfl,_,rfl,?_⟩
  by_cases h0:r.keep=[]
  ·have e:xs.length=0:=by rw [← zx,h0];rfl
   rw [e,decide_eq_false (show ¬ (0:Int)<((0:Nat):Int) by decide)]
   refine bo (fin _ _ ⟨s2,?_,rfl⟩)
   rw [Q6,h0]
   simp [aZ]
  ·have e:(0:Int)<((xs.length:Nat):Int):=by
    have:r.keep.length≠0:=fun z=>h0 (aa2 z)
    omega
   rw [decide_eq_true e]
   refine cL ?_
   refine⟨_,rfl,.inl ⟨rfl,_,aL.of Q6⟩,rfl,_,rfl,t,_,1,_,rfl,rfl,ht.same s2,rfl,b,rfl,⟨_,aL.of hx⟩,fun D hD=>?_⟩
   refine cS (K:=K) (xs:=xs) (r.keep.map aA) (fun _ _ b y=>y=tx b) (fun _ _ _ _ _ _ h=>h) (fun _ _ _ _ _ _ h=>h) (iC (by omega)) hD (aL.of hx) (by rw [Lm9];exact zx) (fun i y b H' R hy hb sm hQ=>?_) (fun H9 ys s9 hL po=>?_)
   ·obtain⟨hi,ey⟩:=aN hy
    obtain⟨dw,eb⟩:=aN hb
    rw [Lm9] at dw
    rw [aaG] at eb
    have hK:=paired_at px i dw hi
    rw [ey] at hK
    have hF:=(hT.f _ (aah _ (aas _ (aap dw)))).fn
    exact⟨_,rfl,y,_,rfl,Fact.sm sm hK,hF,hQ _ _ (ai.refl _) (by rw [← eb])⟩
   rw [cq po] at hL
   have l1:=dk (as:=r.keep.map aA) (B:=100) (fun x hx=>by
    obtain⟨k,hk,rfl⟩:=aay.mp hx
    exact uQ (hT.f _ (aah _ (aas _ hk))))
   rw [Lm9] at l1
   refine⟨_,D,(r.keep.map aA).map S,rfl,rfl,.inl (aL.of (by rw [← dX];exact hL)),(by rw [Lm9,Lm9,ec];omega),?_⟩
   rw [jG]
   have ew:(aaf "keep ")=S (bR++[32]):=by decide +kernel
   have ek:(bR++[32]).length≤5:=by decide
   refine⟨_,_,rfl,rfl,(by rw [ew,aS,aS,aax];omega),?_⟩
   rw [ew,di]
   have hL9:=s9 _ _ Q6
   refine⟨lr,_,_,rfl,rfl,hL9,?_,?_⟩
   ·rw [Lm9,aax];have:=YJ;omega
   ·refine fin _ _ ⟨ai.aR (ai.trans s2 s9) rJ _,?_,rfl⟩
    rw [ae]
    unfold aZ
    rw [if_neg (show ¬ r.keep.map aA=[] by simpa using h0)]
    simp
 obtain⟨s3,MH,rfl⟩:=hg
 have YL:(aZ bJ (r.take.map aA)++aZ bR (r.keep.map aA)++aZ bN (r.aO.map bF)).length≤3:=by
  have p1:=aW bJ (r.take.map aA)
  have p2:=aW bR (r.keep.map aA)
  have p3:=aW bN (r.aO.map bF)
  have p4:=aW dA (r.put.map aA)
  have p5:=aW cn (r.tell.map bL)
  try simp only [aag]
  omega
 refine dE (Good:=fun σ' H'=>ai H H'∧H' lr=some (.lst ((aZ bJ (r.take.map aA)++aZ bR (r.keep.map aA)++aZ bN (r.aO.map bF)).map tx))∧σ'=[some (tx r.title),some (.ref t),some (.ref lr)]) (fun fin=>?_) (fun σ' H4 hg=>?_)
 ·obtain⟨xs,hx,px⟩:=hLk.sm s3
  have zx:=aao px
  have bd:(bA (r.aO.map bF)).length≤2100:=(oP (bN,bA (r.aO.map bF)) (by unfold dY;simp)).2
  refine⟨_,rfl,t,_,2,_,rfl,rfl,ht.same s3,rfl,l,_,rfl,.inl (aL.of hx),_,_,rfl,rfl,_,rfl,?_⟩
  by_cases h0:r.aO=[]
  ·have e:xs.length=0:=by rw [← zx,h0];rfl
   rw [e,decide_eq_false (show ¬ (0:Int)<((0:Nat):Int) by decide)]
   refine bo (fin _ _ ⟨s3,?_,rfl⟩)
   rw [MH,h0]
   simp [aZ]
  ·have e:(0:Int)<((xs.length:Nat):Int):=by
    have:r.aO.length≠0:=fun z=>h0 (aa2 z)
    omega
   rw [decide_eq_true e]
   refine cL ?_
   refine⟨_,rfl,.inl ⟨rfl,_,aL.of MH⟩,rfl,_,rfl,t,_,2,_,rfl,rfl,ht.same s3,rfl,l,rfl,⟨_,aL.of hx⟩,fun D hD=>?_⟩
   refine cS (K:=K) (xs:=xs) (r.aO.map bF) (fun _ _ b y=>y=tx b) (fun _ _ _ _ _ _ h=>h) (fun _ _ _ _ _ _ h=>h) (iC (by omega)) hD (aL.of hx) (by rw [Lm9];exact zx) (fun i y b H' R hy hb sm hQ=>?_) (fun H9 ys s9 hL po=>?_)
   ·obtain⟨hi,ey⟩:=aN hy
    obtain⟨dw,eb⟩:=aN hb
    rw [Lm9] at dw
    rw [aaG] at eb
    have hK:=paired_at px i dw hi
    rw [ey] at hK
    have nD:=hT.l _ (aap dw)
    obtain⟨t2,rfl,qo⟩:=nQ.sm sm hK
    generalize r.aO[i]=kk at qo eb nD
    refine⟨rfl,_,rfl,t2,_,rfl,.inr qo,fun l2 i8=>?_⟩
    have h1:=dm nD.1
    have h2:=dm nD.2
    have h3:(gK kk.same).length≤6:=by cases kk.same <;> decide
    refine⟨_,l2,[kk.l,gK kk.same,kk.r].map S,rfl,rfl,.inl (aL.of ae),?_,?_⟩
    ·simp only [aa5,abJ,acR,adA,aar,abb,aS,es]
     omega
    ·rw [es0,qk]
     refine hQ _ _ (aj i8 _) ?_
     rw [← eb]
     rfl
   rw [cq po] at hL
   have l1:=dk (as:=r.aO.map bF) (B:=100) (fun x hx=>by
    obtain⟨k,hk,rfl⟩:=aay.mp hx
    have:=uO (hT.l k hk);omega)
   rw [Lm9] at l1
   refine⟨_,D,(r.aO.map bF).map S,rfl,rfl,.inl (aL.of (by rw [← dX];exact hL)),(by rw [Lm9,Lm9,ec];omega),?_⟩
   rw [jG]
   have ew:(aaf "look ")=S (bN++[32]):=by decide +kernel
   have ek:(bN++[32]).length≤5:=by decide
   refine⟨_,_,rfl,rfl,(by rw [ew,aS,aS,aax];omega),?_⟩
   rw [ew,di]
   have hL9:=s9 _ _ MH
   refine⟨lr,_,_,rfl,rfl,hL9,?_,?_⟩
   ·rw [Lm9,aax];have:=YK;omega
   ·refine fin _ _ ⟨ai.aR (ai.trans s3 s9) rJ _,?_,rfl⟩
    rw [ae]
    unfold aZ
    rw [if_neg (show ¬ r.aO.map bF=[] by simpa using h0)]
    simp
 obtain⟨s4,Q1,rfl⟩:=hg
 have YM:(aZ bJ (r.take.map aA)++aZ bR (r.keep.map aA)++aZ bN (r.aO.map bF)++aZ dA (r.put.map aA)).length≤4:=by
  have p1:=aW bJ (r.take.map aA)
  have p2:=aW bR (r.keep.map aA)
  have p3:=aW bN (r.aO.map bF)
  have p4:=aW dA (r.put.map aA)
  have p5:=aW cn (r.tell.map bL)
  try simp only [aag]
  omega
 refine dE (Good:=fun σ' H'=>ai H H'∧H' lr=some (.lst ((aZ bJ (r.take.map aA)++aZ bR (r.keep.map aA)++aZ bN (r.aO.map bF)++aZ dA (r.put.map aA)).map tx))∧σ'=[some (tx r.title),some (.ref t),some (.ref lr)]) (fun fin=>?_) (fun σ' H5 hg=>?_)
 ·obtain⟨xs,hx,px⟩:=hG.sm s4
  have zx:=aao px
  have bd:(bA (r.put.map aA)).length≤2100:=(oP (dA,bA (r.put.map aA)) (by unfold dY;simp)).2
  refine⟨_,rfl,t,_,3,_,rfl,rfl,ht.same s4,rfl,g,_,rfl,.inl (aL.of hx),_,_,rfl,rfl,_,rfl,?_⟩
  by_cases h0:r.put=[]
  ·have e:xs.length=0:=by rw [← zx,h0];rfl
   rw [e,decide_eq_false (show ¬ (0:Int)<((0:Nat):Int) by decide)]
   refine bo (fin _ _ ⟨s4,?_,rfl⟩)
   rw [Q1,h0]
   simp [aZ]
  ·have e:(0:Int)<((xs.length:Nat):Int):=by
    have:r.put.length≠0:=fun z=>h0 (aa2 z)
    omega
   rw [decide_eq_true e]
   refine cL ?_
   refine⟨_,rfl,.inl ⟨rfl,_,aL.of Q1⟩,rfl,_,rfl,t,_,3,_,rfl,rfl,ht.same s4,rfl,g,rfl,⟨_,aL.of hx⟩,fun D hD=>?_⟩
   refine cS (K:=K) (xs:=xs) (r.put.map aA) (fun _ _ b y=>y=tx b) (fun _ _ _ _ _ _ h=>h) (fun _ _ _ _ _ _ h=>h) (iC (by omega)) hD (aL.of hx) (by rw [Lm9];exact zx) (fun i y b H' R hy hb sm hQ=>?_) (fun H9 ys s9 hL po=>?_)
   ·obtain⟨hi,ey⟩:=aN hy
    obtain⟨dw,eb⟩:=aN hb
    rw [Lm9] at dw
    rw [aaG] at eb
    have hK:=paired_at px i dw hi
    rw [ey] at hK
    have hF:=(hT.f _ (aah _ (aah _ (aap dw)))).fn
    exact⟨_,rfl,y,_,rfl,Fact.sm sm hK,hF,hQ _ _ (ai.refl _) (by rw [← eb])⟩
   rw [cq po] at hL
   have l1:=dk (as:=r.put.map aA) (B:=100) (fun x hx=>by
    obtain⟨k,hk,rfl⟩:=aay.mp hx
    exact uQ (hT.f _ (aah _ (aah _ hk))))
   rw [Lm9] at l1
   refine⟨_,D,(r.put.map aA).map S,rfl,rfl,.inl (aL.of (by rw [← dX];exact hL)),(by rw [Lm9,Lm9,ec];omega),?_⟩
   rw [jG]
   have ew:(aaf "put ")=S (dA++[32]):=by decide +kernel
   have ek:(dA++[32]).length≤5:=by decide
   refine⟨_,_,rfl,rfl,(by rw [ew,aS,aS,aax];omega),?_⟩
   rw [ew,di]
   have hL9:=s9 _ _ Q1
   refine⟨lr,_,_,rfl,rfl,hL9,?_,?_⟩
   ·rw [Lm9,aax];have:=YL;omega
   ·refine fin _ _ ⟨ai.aR (ai.trans s4 s9) rJ _,?_,rfl⟩
    rw [ae]
    unfold aZ
    rw [if_neg (show ¬ r.put.map aA=[] by simpa using h0)]
    simp
 obtain⟨s5,Qg,rfl⟩:=hg
 have YN:(aZ bJ (r.take.map aA)++aZ bR (r.keep.map aA)++aZ bN (r.aO.map bF)++aZ dA (r.put.map aA)++aZ cn (r.tell.map bL)).length≤5:=by
  have p1:=aW bJ (r.take.map aA)
  have p2:=aW bR (r.keep.map aA)
  have p3:=aW bN (r.aO.map bF)
  have p4:=aW dA (r.put.map aA)
  have p5:=aW cn (r.tell.map bL)
  try simp only [aag]
  omega
 refine dE (Good:=fun σ' H'=>ai H H'∧H' lr=some (.lst ((aZ bJ (r.take.map aA)++aZ bR (r.keep.map aA)++aZ bN (r.aO.map bF)++aZ dA (r.put.map aA)++aZ cn (r.tell.map bL)).map tx))∧σ'=[some (tx r.title),some (.ref t),some (.ref lr)]) (fun fin=>?_) (fun σ' H6 hg=>?_)
 ·obtain⟨xs,hx,px⟩:=hPr.sm s5
  have zx:=aao px
  have bd:(bA (r.tell.map bL)).length≤2100:=(oP (cn,bA (r.tell.map bL)) (by unfold dY;simp)).2
  refine⟨_,rfl,t,_,4,_,rfl,rfl,ht.same s5,rfl,p,_,rfl,.inl (aL.of hx),_,_,rfl,rfl,_,rfl,?_⟩
  by_cases h0:r.tell=[]
  ·have e:xs.length=0:=by rw [← zx,h0];rfl
   rw [e,decide_eq_false (show ¬ (0:Int)<((0:Nat):Int) by decide)]
   refine bo (fin _ _ ⟨s5,?_,rfl⟩)
   rw [Qg,h0]
   simp [aZ]
  ·have e:(0:Int)<((xs.length:Nat):Int):=by
    have:r.tell.length≠0:=fun z=>h0 (aa2 z)
    omega
   rw [decide_eq_true e]
   refine cL ?_
   refine⟨_,rfl,.inl ⟨rfl,_,aL.of Qg⟩,rfl,_,rfl,t,_,4,_,rfl,rfl,ht.same s5,rfl,p,rfl,⟨_,aL.of hx⟩,fun D hD=>?_⟩
   refine cS (K:=K) (xs:=xs) (r.tell.map bL) (fun _ _ b y=>y=tx b) (fun _ _ _ _ _ _ h=>h) (fun _ _ _ _ _ _ h=>h) (iC (by omega)) hD (aL.of hx) (by rw [Lm9];exact zx) (fun i y b H' R hy hb sm hQ=>?_) (fun H9 ys s9 hL po=>?_)
   ·obtain⟨hi,ey⟩:=aN hy
    obtain⟨dw,eb⟩:=aN hb
    rw [Lm9] at dw
    rw [aaG] at eb
    have hK:=paired_at px i dw hi
    rw [ey] at hK
    have nD:=hT.p _ (aap dw)
    obtain⟨t2,rfl,qo⟩:=hK
    have qo:=qo.same sm
    generalize r.tell[i]=kk at qo eb nD
    have h1:=dm nD.1
    have h2:=dm nD.2
    refine⟨_,rfl,t2,_,0,_,rfl,rfl,qo,rfl,_,_,rfl,rfl,(by rw [aS,ee,aax];omega),_,rfl,t2,_,1,_,rfl,rfl,qo,rfl,_,_,rfl,rfl,(by simp only [strLen_append,aS,ee];rw [aax];omega),?_⟩
    rw [ee0,di,di]
    refine hQ _ _ (ai.refl _) ?_
    rw [← eb]
    unfold bL
    simp
   rw [cq po] at hL
   have l1:=dk (as:=r.tell.map bL) (B:=100) (fun x hx=>by
    obtain⟨k,hk,rfl⟩:=aay.mp hx
    have:=uP (hT.p k hk);omega)
   rw [Lm9] at l1
   refine⟨_,D,(r.tell.map bL).map S,rfl,rfl,.inl (aL.of (by rw [← dX];exact hL)),(by rw [Lm9,Lm9,ec];omega),?_⟩
   rw [jG]
   have ew:(aaf "tell ")=S (cn++[32]):=by decide +kernel
   have ek:(cn++[32]).length≤5:=by decide
   refine⟨_,_,rfl,rfl,(by rw [ew,aS,aS,aax];omega),?_⟩
   rw [ew,di]
   have hL9:=s9 _ _ Qg
   refine⟨lr,_,_,rfl,rfl,hL9,?_,?_⟩
   ·rw [Lm9,aax];have:=YM;omega
   ·refine fin _ _ ⟨ai.aR (ai.trans s5 s9) rJ _,?_,rfl⟩
    rw [ae]
    unfold aZ
    rw [if_neg (show ¬ r.tell.map bL=[] by simpa using h0)]
    simp
 obtain⟨s6,hr5,rfl⟩:=hg
 have eP:aZ bJ (r.take.map aA)++aZ bR (r.keep.map aA)++aZ bN (r.aO.map bF)++aZ dA (r.put.map aA)++aZ cn (r.tell.map bL)=cN r:=by
  unfold cN
  simp only [aaT]
 rw [eP] at hr5 YN
 have f1:(aaf "rule ")=S (dc++[32]):=by decide +kernel
 have f2:(aaf ": ")=S [58,32]:=by decide +kernel
 have f3:(aaf "; ")=S [59,32]:=by decide +kernel
 have f4:(aaf "; ").length=2:=by decide +kernel
 have Cb:=dm (cu hT.t)
 have k5:(dc++[32]).length=5:=rfl
 have hpl:=hT.Gr
 have KS:=dk (as:=cN r) (B:=2200) hpl
 have RR:=jl (cN r) hpl
 refine⟨_,rfl,_,_,rfl,rfl,(by rw [f1,aS,aS,aax];omega),?_⟩
 refine⟨_,_,rfl,rfl,(by rw [f1,f2,di,aS,aS,aax,aag];show _+2≤_;omega),?_⟩
 rw [f1,f2,di,di]
 refine⟨rfl,_,rfl,_,lr,(cN r).map S,rfl,rfl,.inl (aL.of (by rw [← dX];exact hr5)),(by rw [Lm9,f4];omega),?_⟩
 rw [f3,qk]
 refine⟨_,_,rfl,rfl,?_,?_⟩
 ·rw [aS,aS,aax,aag,aag]
  have e2:([58,32]:Cs).length=2:=rfl
  omega
 ·rw [di]
  have e:((dc++[32]++r.title)++[58,32])++fV [59,32] (cN r)=aU r:=by
   unfold aU
   simp
  rw [e]
  exact q _ s6
theorem qz:aC ["_law_kind"] ["_law_kind"] (au fC):=⟨rfl,rfl,rfl,by decide +kernel,rfl,by decide +kernel,by decide +kernel⟩
theorem qA (F:dn K "_law_kind_text" "_law_kind_text" fC f fd) (KU:mg "str"=none) (Kw:mg "int"=none):a4 P w K mg base dJ 1 f fd ["_law_kind"] (uK K):=by
 refine F.ok qz (fun vs H Q E h=>?_) (fun cJ A outer s H vs Q E hr h=>?_)
 ·obtain⟨v,k,rfl,_⟩:=h
  rfl
 obtain⟨v,⟨n,ct,b⟩,rfl,⟨t,rfl,ht⟩,hn,hc,q⟩:=h
 have hc:ct≤4:=hc
 have hn:n.length≤12:=hn
 have ht:bT K H t [tx n,.int ct,.bl b]:=ht
 refine⟨_,(@ak _ _ _ (@aG _ _ _ _ (@aw _ _ _ _ _ _ _ _ (@aQ _) (@aw _ _ _ _ _ _ _ _ (@aQ _) (@aw _ _ _ _ _ _ _ _ (@aQ _) (@aq _ _ _ _ _ _ _ (@aJ _) (@aV _ _ _ _ (@aa _ _ _ _ _ (@aF _ _ _ _) (@aa _ _ _ _ _ (@aF _ _ _ _) (@ag _) (by rfl)) (by rfl))) (@cX _ _ _ _ _ _ _ _ _ (@GR _) rfl Kw PyProof.Rows.Boot.«int» (@aa _ _ _ _ _ (@aq _ _ _ _ _ _ _ (@ar _) (pv 0) (@af _ _ _ _) (fun _ _=>rfl)) (@ag _) (by rfl)) (by decide) (by decide) (by rfl) (by rfl)) (fun _ _=>rfl)) (@aq _ _ _ _ _ _ _ (@ar _) (pv 0) (@af _ _ _ _) (fun _ _=>rfl))) (@aF _ _ _ _)) (@cX _ _ _ _ _ _ _ _ _ (@pJ _) rfl KU PyProof.Rows.Boot.«str» (@aa _ _ _ _ _ (@aq _ _ _ _ _ _ _ (@ar _) (pv 0) (@af _ _ _ _) (fun _ _=>rfl)) (@ag _) (by rfl)) (by decide) (by decide) (by rfl) (by rfl))))),?_⟩
 refine⟨(by show 2≤aaj;decide),fun l hl=>?_⟩
 have s1:=aj hl (.lst [V.str (aaf "passing "),V.str (aaf "lasting ")])
 have hl':=ae (H:=H) (a:=l) (o:=.lst [V.str (aaf "passing "),V.str (aaf "lasting ")])
 generalize upd H l (.lst [V.str (aaf "passing "),V.str (aaf "lasting ")])=H1 at s1 hl' ⊢
 have Ao:=ht.same s1
 refine⟨_,rfl,t,_,2,_,rfl,rfl,Ao,rfl,.inr ⟨b,rfl,?_⟩⟩
 have YO:lu [V.str (aaf "passing "),V.str (aaf "lasting ")] (if b=true then 1 else 0)=some (tx ((if b=true then br else bq)++[32])):=by
  have e1:V.str (aaf "passing ")=tx (bq++[32]):=by decide +kernel
  have e2:V.str (aaf "lasting ")=tx (br++[32]):=by decide +kernel
  rw [e1,e2]
  cases b
  ·exact bz (j:=0) rfl
  ·exact bz (j:=1) rfl
 have N6:((if b=true then br else bq)++[32]).length=8:=by cases b <;> rfl
 have e0:(aaf " ")=S [32]:=by decide +kernel
 have e1:(aaf " ").length=1:=by decide +kernel
 refine⟨l,_,_,_,rfl,rfl,aL.of hl',YO,_,rfl,t,_,0,_,rfl,rfl,Ao,rfl,_,_,rfl,rfl,(by rw [aS,aS,N6,aax];omega),?_⟩
 refine⟨_,_,rfl,rfl,(by simp only [strLen_append,aS,e1,N6];rw [aax];omega),?_⟩
 refine⟨_,rfl,t,_,1,_,rfl,rfl,Ao,rfl,_,rfl,Ab hc,?_⟩
 rw [Aa hc,e0,di,di]
 refine⟨_,_,rfl,rfl,(by simp only [aS,aag,N6,aar,abb];rw [aax];omega),?_⟩
 rw [di]
 have e:(((if b=true then br else bq)++[32])++n++[32])++[48+ct]=az ⟨n,ct,b⟩:=by
  unfold az
  simp
 rw [e]
 exact q _ s1
end
end ft
namespace ft
open PySem L2 cR Bk
set_option maxHeartbeats 4000000
section
variable {P:aaS} {w:abg} {K:aae} {mg:Str→Option aai} {base:Heap} {f:aaB} {fd:aa9} {C1 C2:aaB}
theorem nV:aC ["_law_kinds_here","_law_fact_here","_law_kind"] ["_law_kinds_here","_law_fact_here"] (au jY):=⟨rfl,rfl,rfl,by decide +kernel,rfl,by decide +kernel,by decide +kernel⟩
theorem x2 (F:dn K "_law_fault" "_law_fault" jY f fd) (aY:mg "len"=none):a4 P w K mg base dJ 1 f fd ["_law_kinds_here","_law_fact_here"] (CU K):=by
 refine F.ok nV (fun vs H Q E h=>?_) (fun cJ A outer s H vs Q E hr h=>?_)
 ·obtain⟨lk,v,ks,g,rfl,_⟩:=h
  rfl
 obtain⟨lk,v,ks,g,rfl,⟨kvs,hk,pk⟩,⟨t,t2,rfl,h1,h2⟩,vh,i8,q⟩:=h
 refine⟨_,(ah (b8 aa0 rfl (aT (pv 0)) (bw (i:=2) nV.nd rfl (aaM rfl))
 (ak (aX (aE cg (aq ar (pv 2) af (fun _ _=>rfl)) (aq ar (pv 1) af (fun _ _=>rfl)) (aM _))
 (ah (aX (aE cg (aq ar (pv 2) af (fun _ _=>rfl)) (aK aB rfl aY aaF (aa (aq ar (pv 1) af (fun _ _=>rfl)) ag)) (aM _))
 (ak (aG af))
 aI)
 (ak (aG af)))
 aI)))
 (ak (aG af))),?_⟩
 have zk:=aao pk
 refine⟨_,rfl,lk,rfl,⟨_,aL.of hk⟩,bP (K:=K) (a:=lk) (xs:=kvs) (fun i σ H'=>H'=H∧fault ks g=fault (ks.drop i) g∧∃o,σ=[some (.ref lk),some (.ref t),o]) ⟨rfl,rfl,none,rfl⟩ (fun i σ H' _ ⟨e,_⟩=>by rw [e];exact aL.of hk) ?_ ?_⟩
 ·rintro i y σ H' hi ⟨rfl,mI,o,rfl⟩
  obtain⟨Iu,ey⟩:=aN hi
  have TZ:i<ks.length:=by omega
  obtain⟨tk,et,ht⟩:=paired_at pk i TZ Iu
  rw [ey] at et
  subst et
  rw [abE TZ] at mI
  refine⟨_,rfl,tk,_,0,_,rfl,rfl,ht,rfl,_,rfl,t,_,0,_,rfl,rfl,h1,rfl,rfl,_,rfl,?_⟩
  by_cases hn:ks[i].n=g.k
  ·rw [decide_eq_true (show tx ks[i].n=tx g.k by rw [hn])]
   have hfk:fault ks g=if ks[i].c=g.as.length then 0 else 2:=by
    rw [mI]
    unfold fault
    rw [abx,decide_eq_true hn]
   refine cL ?_
   refine⟨_,rfl,tk,_,1,_,rfl,rfl,ht,rfl,_,rfl,t,_,1,_,rfl,rfl,h1,rfl,t2,_,rfl,.inr h2,rfl,_,rfl,?_⟩
   rw [Lm9]
   by_cases hc:ks[i].c=g.as.length
   ·rw [decide_eq_true (show V.int (ks[i].c:Nat)=V.int (g.as.length:Nat) by rw [hc])]
    rw [hfk,if_pos hc] at q
    exact cL q
   ·rw [decide_eq_false (fun z:V.int (ks[i].c:Nat)=V.int (g.as.length:Nat)=>hc (by have:=V.int.inj z;omega))]
    rw [hfk,if_neg hc] at q
    exact bo q
  ·rw [decide_eq_false (fun z:tx ks[i].n=tx g.k=>hn (sY (V.str.inj z)))]
   refine bo ⟨rfl,?_,_,rfl⟩
   rw [mI]
   unfold fault
   rw [abx,decide_eq_false hn]
 ·rintro σ H' ⟨rfl,mI,o,rfl⟩
  rw [acj (by omega)] at mI
  rw [mI] at q
  exact q
theorem nW:aC ["_law_kinds_here","_law_fact_here","_law_kind"] ["_law_kinds_here","_law_fact_here"] (au jZ):=⟨rfl,rfl,rfl,by decide +kernel,rfl,by decide +kernel,by decide +kernel⟩
theorem x3 (F:dn K "_law_lasts" "_law_lasts" jZ f fd):a4 P w K mg base dJ 1 f fd ["_law_kinds_here","_law_fact_here"] (CV K):=by
 refine F.ok nW (fun vs H Q E h=>?_) (fun cJ A outer s H vs Q E hr h=>?_)
 ·obtain⟨lk,v,ks,g,rfl,_⟩:=h
  rfl
 obtain⟨lk,v,ks,g,rfl,⟨kvs,hk,pk⟩,nd,⟨t,t2,rfl,h1,h2⟩,vh,i8,q⟩:=h
 refine⟨_,(ah (b8 aa0 rfl (aT (pv 0)) (bw (i:=2) nW.nd rfl (aaM rfl))
 (ak (aX (aE cg (aq ar (pv 2) af (fun _ _=>rfl)) (aq ar (pv 1) af (fun _ _=>rfl)) (aM _))
 (ak (aG (aq ar (pv 2) af (fun _ _=>rfl))))
 aI)))
 (ak (aG d7))),?_⟩
 have zk:=aao pk
 refine⟨_,rfl,lk,rfl,⟨_,aL.of hk⟩,bP (K:=K) (a:=lk) (xs:=kvs) (fun i σ H'=>H'=H∧(∀j (hj:j<ks.length),j<i→ks[j].n≠g.k)∧∃o,σ=[some (.ref lk),some (.ref t),o]) ⟨rfl,(fun j _ h=>absurd h (Nat.not_lt_zero _)),none,rfl⟩ (fun i σ H' _ ⟨e,_⟩=>by rw [e];exact aL.of hk) ?_ ?_⟩
 ·rintro i y σ H' hi ⟨rfl,mI,o,rfl⟩
  obtain⟨Iu,ey⟩:=aN hi
  have TZ:i<ks.length:=by omega
  obtain⟨tk,et,ht⟩:=paired_at pk i TZ Iu
  rw [ey] at et
  subst et
  refine⟨_,rfl,tk,_,0,_,rfl,rfl,ht,rfl,_,rfl,t,_,0,_,rfl,rfl,h1,rfl,rfl,_,rfl,?_⟩
  by_cases hn:ks[i].n=g.k
  ·rw [decide_eq_true (show tx ks[i].n=tx g.k by rw [hn])]
   have e:decide (g.k∈fU ks)=ks[i].l:=by rw [← hn];exact Mj nd TZ
   rw [e] at q
   exact cL ⟨_,rfl,tk,_,2,_,rfl,rfl,ht,rfl,q⟩
  ·rw [decide_eq_false (fun z:tx ks[i].n=tx g.k=>hn (sY (V.str.inj z)))]
   refine bo ⟨rfl,fun j hj hji=>?_,_,rfl⟩
   rcases Nat.lt_or_eq_of_le (Nat.le_of_lt_succ hji) with z|z
   ·exact mI j hj z
   ·subst z;exact hn
 ·rintro σ H' ⟨rfl,mI,o,rfl⟩
  have e:decide (g.k∈fU ks)=false:=decide_eq_false fun hm=>by
   unfold fU at hm
   obtain⟨k,PB,NY⟩:=aay.mp hm
   obtain⟨j,hj,rfl⟩:=ael.mp (abf.mp PB).1
   exact mI j hj (by omega) NY
  rw [e] at q
  exact q
end
end ft
namespace ft
open PySem L2 cR Bk
set_option maxHeartbeats 4000000
section
variable {P:aaS} {w:abg} {K:aae} {mg:Str→Option aai} {base:Heap} {f:aaB} {fd:aa9} {C1 C2:aaB}
theorem DB:aC ["_law_fact_here","_law_stranger","_law_number"] ["_law_fact_here","_law_stranger","_law_number"] (au oM):=⟨rfl,rfl,rfl,by decide +kernel,rfl,by decide +kernel,by decide +kernel⟩
theorem DC (F:dn K "_law_odd" "_law_odd" oM f fd) (aY:mg "len"=none):a4 P w K mg base dJ 1 f fd ["_law_fact_here","_law_stranger","_law_number"] (NW K):=by
 refine F.ok DB (fun vs H Q E h=>?_) (fun cJ A outer s H vs Q E hr h=>?_)
 ·obtain⟨v,g,st,n,rfl,_⟩:=h
  rfl
 obtain⟨v,g,st,n,rfl,⟨t,t2,rfl,h1,h2⟩,hn,q⟩:=h
 refine⟨_,(ah (aX (aE cg (aw bt (pv 2) af) af (aM _))
 (ak (aG (bD (aa (pv 1) (aa (aq ar (pv 0) af (fun _ _=>rfl)) ag)))))
 aI)
 (ah (aX (PW.pt (yD (PW.pt (lB (aE cg (aw bt (aw cK (pv 2) af) af) af (aM _)) (hV (aE lD (aK aB rfl aY aaF (aa (aq ar (pv 0) af (fun _ _=>rfl)) ag)) af (aM _))))) (zK (aE cg (aK aB rfl aY aaF (aa (aq ar (pv 0) af (fun _ _=>rfl)) ag)) af (aM _)))))
 (ak (aG (bD (aa (aq ar (pv 0) af (fun _ _=>rfl)) (aa (cy FX (aq ar (pv 0) af (fun _ _=>rfl)) (cv af) d4) ag)))))
 aI)
 (ak (aG (bD (aa (aq ar (pv 0) af (fun _ _=>rfl)) (aa (aw Mi (aq ar (pv 0) af (fun _ _=>rfl)) (bD (aa (pv 1) ag))) ag))))))),?_⟩
 refine⟨_,rfl,_,_,rfl,rfl,(by show(0:Int)<2;decide),rfl,_,rfl,eV (fun c=>?_) (fun c=>?_)⟩
 ·exact⟨_,rfl,_,rfl,t,_,1,_,rfl,rfl,h1,rfl,(by show 2≤aaj;decide),fun p hp=>q _ ⟨st,g.as⟩ _ (aj hp _) ⟨p,t2,rfl,bT.of ae,h2.same (aj hp _)⟩ (.inr rfl) (fun a ha=>.inl ha) (Nat.le_succ _)⟩
 have hA:∀p H',ai H H'→bT K H' p (fQ (g.as.map tx) (some 1) none)→∀p2,H' p2=none→Q (.ref p2) (upd H' p2 (.tup [tx g.k,.ref p])):=fun p H' sm hp p2 EF=>by
  obtain⟨ms,em,lm,im⟩:=PM g.as (some 1) none
  rw [em] at hp
  exact q _ ⟨g.k,ms⟩ _ (ai.trans sm (aj EF _)) ⟨p2,p,rfl,bT.of ae,hp.same (aj EF _)⟩ (.inl rfl) (fun a ha=>.inl (im a ha)) (by show ms.length≤g.as.length+1;omega)
 have hB:∀p H',ai H H'→bT K H' p ((g.as++[st]).map tx)→∀p2,H' p2=none→Q (.ref p2) (upd H' p2 (.tup [tx g.k,.ref p])):=fun p H' sm hp p2 EF=>by
  exact q _ ⟨g.k,g.as++[st]⟩ _ (ai.trans sm (aj EF _)) ⟨p2,p,rfl,bT.of ae,hp.same (aj EF _)⟩ (.inl rfl) (fun a ha=>by rcases aaq.mp ha with z|z;exact .inl z;exact .inr (aal.mp z)) (by show(g.as++[st]).length≤g.as.length+1;simp)
 refine⟨_,rfl,_,_,rfl,rfl,⟨by decide,by decide⟩,_,_,rfl,rfl,(by show(0:Int)<2;decide),rfl,_,rfl,eV (fun c2=>?_) (fun c2=>?_)⟩
 ·refine⟨_,rfl,t,_,1,_,rfl,rfl,h1,rfl,t2,_,rfl,.inr h2,_,_,rfl,rfl,_,rfl,eV (fun c3=>?_) (fun c3=>?_)⟩
  ·refine⟨_,rfl,t,_,0,_,rfl,rfl,h1,rfl,_,rfl,t,_,1,_,rfl,rfl,h1,rfl,?_⟩
   exact⟨_,rfl,t2,_,rfl,h2,fun p H' sm hp=>⟨(by show 2≤aaj;decide),hA p H' sm hp⟩⟩
  ·refine⟨_,rfl,t,_,1,_,rfl,rfl,h1,rfl,t2,_,rfl,.inr h2,rfl,_,rfl,eV (fun c4=>?_) (fun c4=>?_)⟩
   ·refine⟨_,rfl,t,_,0,_,rfl,rfl,h1,rfl,_,rfl,t,_,1,_,rfl,rfl,h1,rfl,?_⟩
    exact⟨_,rfl,t2,_,rfl,h2,fun p H' sm hp=>⟨(by show 2≤aaj;decide),hA p H' sm hp⟩⟩
   ·refine⟨_,rfl,t,_,0,_,rfl,rfl,h1,rfl,_,rfl,t,_,1,_,rfl,rfl,h1,rfl,?_⟩
    exact⟨_,rfl,(by show 1≤aaj;decide),fun pt Qs=>⟨t2,pt,g.as.map tx,[tx st],rfl,rfl,h2.same (aj Qs _),bT.of ae,(by rw [Lm9,aax];show g.as.length+1≤_;omega),(fun e=>⟨(by show 2≤aaj;decide),hB _ _ (aj Qs _) (by rw [aat,e];exact bT.of ae)⟩),(fun _ e=>nomatch e),fun _ _ p hp=>⟨(by show 2≤aaj;decide),hB _ _ (ai.trans (aj Qs _) (aj hp _)) (by rw [aat];exact bT.of ae)⟩⟩⟩
 ·refine bo ?_
  refine⟨_,rfl,t,_,1,_,rfl,rfl,h1,rfl,t2,_,rfl,.inr h2,rfl,_,rfl,eV (fun c4=>?_) (fun c4=>?_)⟩
  ·refine⟨_,rfl,t,_,0,_,rfl,rfl,h1,rfl,_,rfl,t,_,1,_,rfl,rfl,h1,rfl,?_⟩
   exact⟨_,rfl,t2,_,rfl,h2,fun p H' sm hp=>⟨(by show 2≤aaj;decide),hA p H' sm hp⟩⟩
  ·refine⟨_,rfl,t,_,0,_,rfl,rfl,h1,rfl,_,rfl,t,_,1,_,rfl,rfl,h1,rfl,?_⟩
   exact⟨_,rfl,(by show 1≤aaj;decide),fun pt Qs=>⟨t2,pt,g.as.map tx,[tx st],rfl,rfl,h2.same (aj Qs _),bT.of ae,(by rw [Lm9,aax];show g.as.length+1≤_;omega),(fun e=>⟨(by show 2≤aaj;decide),hB _ _ (aj Qs _) (by rw [aat,e];exact bT.of ae)⟩),(fun _ e=>nomatch e),fun _ _ p hp=>⟨(by show 2≤aaj;decide),hB _ _ (ai.trans (aj Qs _) (aj hp _)) (by rw [aat];exact bT.of ae)⟩⟩⟩
end
end ft
namespace ft
open PySem L2 cR Bk
set_option maxHeartbeats 4000000
section
variable {P:aaS} {w:abg} {K:aae} {mg:Str→Option aai} {base:Heap} {f:aaB} {fd:aa9} {c:Cl}
theorem MT {α:Type} {xs:List α} {v:Int} (h:1≤xs.length):∃(j:Nat) (hj:j<xs.length),lu xs (v % (xs.length:Int))=some xs[j]∧IZ xs.length (v % (xs.length:Int))=some j:=by
 have hp:(0:Int)<(xs.length:Int):=by omega
 have md:=mid (a:=v) hp
 refine⟨(v % (xs.length:Int)).toNat,by omega,?_,?_⟩
 ·have z:=bz (xs:=xs) (j:=(v % (xs.length:Int)).toNat) (v:=xs[(v % (xs.length:Int)).toNat]'(by omega)) (by rw [Ge9])
  rw [show(((v % (xs.length:Int)).toNat:Nat):Int)=v % (xs.length:Int) by omega] at z
  exact z
 ·unfold IZ
  rw [if_pos md.1,if_pos md.2]
theorem cA:aC ["_law_rule_here","_law_stranger","_law_number","_law_fault_here","_law_rows","_law_at","_law_first","_law_second"] ["_law_rule_here","_law_stranger","_law_number","_law_fault_here"] (au eo):=⟨rfl,rfl,rfl,by decide +kernel,rfl,by decide +kernel,by decide +kernel⟩
theorem mQ (F:dn K "_law_spoiled_fact" "_law_spoiled_fact" eo f fd) (oS:dz P w K mg base "_law_odd" 1 ["_law_fact_here","_law_stranger","_law_number"] (NW K)) (aY:mg "len"=none):a4 P w K mg base dJ 2 f fd ["_law_rule_here","_law_stranger","_law_number","_law_fault_here"] (vL K):=by
 refine F.ok cA (fun vs H Q E h=>?_) (fun cJ A outer s H vs Q E hr h=>?_)
 ·obtain⟨HB,t,r,st,n,fa,rfl,_⟩:=h
  rfl
 obtain⟨HB,t,r,st,n,fa,rfl,GB,⟨a,b,l,g,p,hT,⟨na,nb,nl,ng,np⟩,hA,hB,hL,hG,hP⟩,hW,zQ,q⟩:=h
 refine⟨_,(@ah _ _ _ _ _ (@ay _ _ (4) _ _ _ _ cA.nd rfl (aaM rfl) (@aw _ _ _ _ _ _ _ _ (@cF _) (@aw _ _ _ _ _ _ _ _ (@cF _) (@aq _ _ _ _ _ _ _ (@ar _) (pv 0) (@af _ _ _ _) (fun _ _=>rfl)) (@aq _ _ _ _ _ _ _ (@ar _) (pv 0) (@af _ _ _ _) (fun _ _=>rfl))) (@aq _ _ _ _ _ _ _ (@ar _) (pv 0) (@af _ _ _ _) (fun _ _=>rfl))) (by rfl) (by first|exact .inl rfl|exact .inr rfl|assumption)) (@ah _ _ _ _ _ (@ay _ _ (5) _ _ _ _ cA.nd rfl (aaM rfl) (@aw _ _ _ _ _ _ _ _ (@bt _) (@aw _ _ _ _ _ _ _ _ (@cK _) (pv 2) (@af _ _ _ _)) (@aK _ _ _ _ _ _ _ _ _ (@aB _) rfl aY aaF (@aa _ _ _ _ _ (pv 4) (@ag _) (by rfl)) (by decide) (by decide) (by rfl) (by rfl))) (by rfl) (by first|exact .inl rfl|exact .inr rfl|assumption)) (@ah _ _ _ _ _ (@IH _ _ _ _ _ _ (@ao _ _ _ _ _ _ _ _ _ _ oS (hr.mono (by decide)) rfl (@aa _ _ _ _ _ (@aq _ _ _ _ _ _ _ (@aJ _) (pv 4) (pv 5) (fun _ _=>rfl)) (@aa _ _ _ _ _ (pv 1) (@aa _ _ _ _ _ (@aw _ _ _ _ _ _ _ _ (@En _) (@aw _ _ _ _ _ _ _ _ (@cE _) (@aw _ _ _ _ _ _ _ _ (@jx _) (@af _ _ _ _) (@aw _ _ _ _ _ _ _ _ (@bt _) (pv 2) (@af _ _ _ _))) (pv 3)) (@af _ _ _ _)) (@ag _) (by rfl)) (by rfl)) (by rfl)) (by decide) (by rfl) (by rfl)) (@IG _ _ _ _ _ _ _ (pv 4) (pv 5) (@set_list _) (by intro _;rfl)) (by rfl) (by rfl) (by rfl)) (@ah _ _ _ _ _ (@ay _ _ (6) _ _ _ _ cA.nd rfl (aaM rfl) (@aK _ _ _ _ _ _ _ _ _ (@aB _) rfl aY aaF (@aa _ _ _ _ _ (@aq _ _ _ _ _ _ _ (@ar _) (pv 0) (@af _ _ _ _) (fun _ _=>rfl)) (@ag _) (by rfl)) (by decide) (by decide) (by rfl) (by rfl)) (by rfl) (by first|exact .inl rfl|exact .inr rfl|assumption)) (@ah _ _ _ _ _ (@ay _ _ (7) _ _ _ _ cA.nd rfl (aaM rfl) (@aw _ _ _ _ _ _ _ _ (@cE _) (pv 6) (@aK _ _ _ _ _ _ _ _ _ (@aB _) rfl aY aaF (@aa _ _ _ _ _ (@aq _ _ _ _ _ _ _ (@ar _) (pv 0) (@af _ _ _ _) (fun _ _=>rfl)) (@ag _) (by rfl)) (by decide) (by decide) (by rfl) (by rfl))) (by rfl) (by first|exact .inl rfl|exact .inr rfl|assumption)) (@ak _ _ _ (@aG _ _ _ _ (@bD _ _ _ _ _ (@aa _ _ _ _ _ (@cy _ _ _ _ _ _ _ _ _ _ (@fI _) (pv 4) (@d4 _) (@cv _ _ _ (pv 6))) (@aa _ _ _ _ _ (@cy _ _ _ _ _ _ _ _ _ _ (@fI _) (pv 4) (@cv _ _ _ (pv 6)) (@cv _ _ _ (pv 7))) (@aa _ _ _ _ _ (@aq _ _ _ _ _ _ _ (@ar _) (pv 0) (@af _ _ _ _) (fun _ _=>rfl)) (@aa _ _ _ _ _ (@cy _ _ _ _ _ _ _ _ _ _ (@fI _) (pv 4) (@cv _ _ _ (pv 7)) (@d4 _)) (@aa _ _ _ _ _ (@aq _ _ _ _ _ _ _ (@ar _) (pv 0) (@af _ _ _ _) (fun _ _=>rfl)) (@ag _) (by rfl)) (by rfl)) (by rfl)) (by rfl)) (by rfl)))))))))),?_⟩
 obtain⟨av,ha,pa⟩:=id hA
 obtain⟨bv,hb,pb⟩:=id hB
 obtain⟨gv,hg,pg⟩:=id hG
 have za:=aao pa
 have zb:=aao pb
 have zg:=aao pg
 have hfew:=hW.few
 unfold Iq at hfew
 have WR:1≤r.take.length+r.keep.length:=by
  have z:=hW.hd
  rcases Nat.eq_zero_or_pos (r.take.length+r.keep.length) with e|e
  ·exact absurd (aa2 (by rw [aag];exact e)) z
  ·exact e
 refine⟨_,rfl,t,_,0,_,rfl,rfl,hT,rfl,_,rfl,t,_,1,_,rfl,rfl,hT,rfl,a,b,_,_,rfl,rfl,ha,hb,(by rw [aax];omega),fun l1 vh=>?_⟩
 have s1:=aj vh (.lst (av++bv))
 have h1:=ae (H:=H) (a:=l1) (o:=.lst (av++bv))
 generalize upd H l1 (.lst (av++bv))=H1 at s1 h1 ⊢
 refine⟨_,rfl,t,_,3,_,rfl,rfl,hT.same s1,rfl,l1,g,_,_,rfl,rfl,h1,s1 _ _ hg,(by rw [aag,aax];omega),fun l2 i8=>?_⟩
 have s2:=aj i8 (.lst ((av++bv)++gv))
 have h2:=ae (H:=H1) (a:=l2) (o:=.lst ((av++bv)++gv))
 have sA:=ai.trans s1 s2
 have KC:H l2=none:=s1.free i8
 have x4:Paired (Fact K (upd H1 l2 (.lst ((av++bv)++gv)))) ((r.take++r.keep)++r.put) ((av++bv)++gv):=ax (a7 (a7 pa pb) pg) fun _ _ _=>Fact.sm sA
 generalize upd H1 l2 (.lst ((av++bv)++gv))=H2 at s2 h2 sA x4 ⊢
 have hall:∀g∈(r.take++r.keep)++r.put,a6 g.k=true∧(∀a∈g.as,aD a=true)∧g.as.length≤2:=fun g hg=>hW.f g (by rw [← aaT];exact hg)
 have Qt:=aao x4
 have zx:((av++bv)++gv).length=r.take.length+r.keep.length+r.put.length:=by simp only [aag];omega
 have zf:((r.take++r.keep)++r.put).length=r.take.length+r.keep.length+r.put.length:=by simp only [aag]
 generalize (av++bv)++gv=xs at h2 x4 Qt zx ⊢
 generalize (r.take++r.keep)++r.put=fs at x4 Qt zf hall ⊢
 obtain⟨j,hj,ej,ei⟩:=MT (xs:=xs) (v:=n / 4) (by omega)
 have K1:j<fs.length:=by omega
 refine⟨_,rfl,_,_,rfl,rfl,⟨by decide,by decide⟩,_,rfl,l2,_,rfl,.inl (aL.of h2),_,_,rfl,rfl,(by show(0:Int)<(xs.length:Int);omega),?_⟩
 refine bW ?_
 dsimp only
 refine⟨_,rfl,_,rfl,l2,_,_,_,rfl,rfl,aL.of h2,ej,_,rfl,_,rfl,_,_,rfl,rfl,(by show(0:Int)<2;decide),_,_,rfl,rfl,.inl ⟨by decide,by decide⟩,_,rfl,_,_,rfl,rfl,_,_,rfl,rfl,?_⟩
 have hF:=paired_at x4 j K1 hj
 refine⟨xs[j],fs[j],st,_,rfl,hF,(by have:=(hall _ (aap K1)).2.2;omega),fun v' f' H3 s3 hF' hk' ha' hl'=>?_⟩
 have h3:=s3 _ _ h2
 refine⟨_,rfl,_,rfl,l2,_,_,j,rfl,rfl,h3,ei,?_⟩
 have hF3:∀g∈fs.set j f',a6 g.k=true∧(∀a∈g.as,aD a=true)∧g.as.length≤3:=fun g hg=>by
  rcases List.mem_or_eq_of_mem_set hg with z|z
  ·have y:=hall g z
   exact⟨y.1,y.2.1,by omega⟩
  ·have y:=hall _ (aap K1)
   rw [z]
   refine⟨?_,fun a h=>?_,by omega⟩
   ·rcases hk' with e|e
    ·rw [e];exact y.1
    ·rw [e];exact zQ
   ·rcases ha' a h with e|e
    ·exact y.2.1 a e
    ·rw [e];exact cu zQ
 have ps:Paired (Fact K (upd H3 l2 (.lst (xs.set j v')))) (fs.set j f') (xs.set j v'):=by
  refine ax (vH hF' j (ax x4 fun _ _ _=>Fact.sm s3)) fun _ _ _ z=>?_
  obtain⟨t,t2,e,g1,g2⟩:=z
  exact⟨t,t2,e,cT h3 g1,cT h3 g2⟩
 have sB:ai H (upd H3 l2 (.lst (xs.set j v'))):=ai.aR (ai.trans sA s3) KC _
 have h4:=ae (H:=H3) (a:=l2) (o:=.lst (xs.set j v'))
 have zs:(xs.set j v').length=r.take.length+r.keep.length+r.put.length:=by rw [ade];exact zx
 have zfs:(fs.set j f').length=r.take.length+r.keep.length+r.put.length:=by rw [ade];exact zf
 generalize upd H3 l2 (.lst (xs.set j v'))=H4 at ps sB h4 ⊢
 generalize xs.set j v'=ys at ps h4 zs ⊢
 generalize fs.set j f'=gs at ps hF3 zfs
 refine⟨_,rfl,t,_,0,_,rfl,rfl,hT.same sB,rfl,a,_,rfl,.inl (aL.of (sB _ _ ha)),?_⟩
 refine bW ?_
 dsimp only
 refine⟨_,rfl,_,rfl,t,_,1,_,rfl,rfl,hT.same sB,rfl,b,_,rfl,.inl (aL.of (sB _ _ hb)),_,_,rfl,rfl,?_⟩
 refine bW ?_
 dsimp only
 rw [← za,← zb,show((r.take.length:Nat):Int)+((r.keep.length:Nat):Int)=((r.take.length+r.keep.length:Nat):Int) by omega]
 have QS:r.take.length≤ys.length:=by omega
 have N1:r.take.length+r.keep.length≤ys.length:=by omega
 refine⟨_,rfl,_,rfl,_,rfl,l2,_,rfl,aL.of h4,fun p1 Vl=>?_⟩
 rw [Kg QS]
 have s5:=aj Vl (.lst (ys.take r.take.length))
 have h5:=ae (H:=H4) (a:=p1) (o:=.lst (ys.take r.take.length))
 generalize upd H4 p1 (.lst (ys.take r.take.length))=H5 at s5 h5 ⊢
 refine⟨_,rfl,_,rfl,_,rfl,_,rfl,_,rfl,l2,_,rfl,aL.of (s5 _ _ h4),fun p2 EF=>?_⟩
 rw [MC (Nat.le_add_right _ _) N1]
 have s6:=aj EF (.lst ((ys.drop r.take.length).take (r.take.length+r.keep.length - r.take.length)))
 have h6:=ae (H:=H5) (a:=p2) (o:=.lst ((ys.drop r.take.length).take (r.take.length+r.keep.length - r.take.length)))
 generalize upd H5 p2 (.lst ((ys.drop r.take.length).take (r.take.length+r.keep.length - r.take.length)))=H6 at s6 h6 ⊢
 have GC:=ai.trans s5 s6
 have sC:=ai.trans sB GC
 refine⟨_,rfl,t,_,2,_,rfl,rfl,hT.same sC,rfl,_,rfl,_,rfl,_,rfl,l2,_,rfl,aL.of (GC _ _ h4),fun p3 T2=>?_⟩
 rw [lG N1]
 have s7:=aj T2 (.lst (ys.drop (r.take.length+r.keep.length)))
 have h7:=ae (H:=H6) (a:=p3) (o:=.lst (ys.drop (r.take.length+r.keep.length)))
 generalize upd H6 p3 (.lst (ys.drop (r.take.length+r.keep.length)))=H7 at s7 h7 ⊢
 have sD:=ai.trans sC s7
 refine⟨_,rfl,t,_,4,_,rfl,rfl,hT.same sD,rfl,(by show 5≤aaj;decide),fun tt Cb=>?_⟩
 have s8:=aj Cb (.tup [.ref p1,.ref p2,.ref l,.ref p3,.ref p])
 have s48:=ai.trans GC (ai.trans s7 s8)
 have sE:=ai.trans sD s8
 have pF:Paired (Fact K (upd H7 tt (.tup [.ref p1,.ref p2,.ref l,.ref p3,.ref p]))) gs ys:=ax ps fun _ _ _=>Fact.sm s48
 refine q tt ⟨[],gs.take r.take.length,(gs.drop r.take.length).take (r.take.length+r.keep.length - r.take.length),r.aO,gs.drop (r.take.length+r.keep.length),r.tell⟩ _ sE ⟨p1,p2,l,p3,p,bT.of ae,⟨(ai.trans GB sB).free Vl,(ai.trans GB (ai.trans sB s5)).free EF,nl,(ai.trans GB sC).free T2,np⟩,⟨_,s8 _ _ (s7 _ _ (s6 _ _ h5)),ip _ pF⟩,⟨_,s8 _ _ (s7 _ _ h6),ip _ (ir _ pF)⟩,hL.sm sE,⟨_,s8 _ _ h7,ir _ pF⟩,hP.sm sE⟩ ⟨fun g hg=>hF3 g ?_,hW.l,hW.p,fun e=>?_,?_⟩
 ·rcases aaq.mp hg with z|z
  ·exact abn z
  ·rcases aaq.mp z with z|z
   ·exact abT (abn z)
   ·exact abT z
 ·have z:=congrArg aco e
  simp only [aag,aaA,aba,abb] at z
  omega
 ·show(gs.take r.take.length).length≤4∧((gs.drop r.take.length).take (r.take.length+r.keep.length - r.take.length)).length≤4∧r.aO.length≤4∧(gs.drop (r.take.length+r.keep.length)).length≤4∧r.tell.length≤4
  simp only [aaA,aba]
  omega
end
end ft
namespace ft
open PySem L2 cR Bk
set_option maxHeartbeats 4000000
section
variable {P:aaS} {w:abg} {K:aae} {mg:Str→Option aai} {base:Heap} {f:aaB} {fd:aa9} {c:Cl}
theorem dI:aC ["_law_rule_here","_law_kinds_here","_law_name","_law_number","_law_word","_law_two_here","_law_facts_here"] ["_law_rule_here","_law_kinds_here","_law_name","_law_number"] (au ff):=⟨rfl,rfl,rfl,by decide +kernel,rfl,by decide +kernel,by decide +kernel⟩
theorem oT (F:dn K "_law_stray_name" "_law_stray_name" ff f fd) (aY:mg "len"=none) (bY:mg "range"=none) (j5:mg "tuple"=none):a4 P w K mg base dJ 1 f fd ["_law_rule_here","_law_kinds_here","_law_name","_law_number"] (Gx K):=by
 refine F.ok dI (fun vs H Q E h=>?_) (fun cJ A outer s H vs Q E hr h=>?_)
 ·obtain⟨HB,t,lk,r,ks,nm,n,rfl,_⟩:=h
  rfl
 obtain⟨HB,t,lk,r,ks,nm,n,rfl,GB,⟨a,b,l,g,p,hT,⟨na,nb,nl,ng,np⟩,hA,hB,hL,hG,hP⟩,hW,⟨kvs,hk,pk⟩,Fb,yJ,nD,q⟩:=h
 refine⟨_,(@ah _ _ _ _ _ (@ay _ _ (4) _ _ _ _ dI.nd rfl (aaM rfl) (@aq _ _ _ _ _ _ _ (@ar _) (@aq _ _ _ _ _ _ _ (@aJ _) (pv 1) (@af _ _ _ _) (fun _ _=>rfl)) (@af _ _ _ _) (fun _ _=>rfl)) (by rfl) (by first|exact .inl rfl|exact .inr rfl|assumption)) (@ah _ _ _ _ _ (@ay _ _ (5) _ _ _ _ dI.nd rfl (ady rfl) (@aq _ _ _ _ _ _ _ (@aJ _) (@aV _ _ _ _ (@aa _ _ _ _ _ (@bD _ _ _ _ _ (@aa _ _ _ _ _ (pv 2) (@aa _ _ _ _ _ (pv 4) (@ag _) (by rfl)) (by rfl))) (@aa _ _ _ _ _ (@bD _ _ _ _ _ (@aa _ _ _ _ _ (pv 4) (@aa _ _ _ _ _ (pv 2) (@ag _) (by rfl)) (by rfl))) (@ag _) (by rfl)) (by rfl))) (@aw _ _ _ _ _ _ _ _ (@bt _) (@aw _ _ _ _ _ _ _ _ (@cK _) (pv 3) (@af _ _ _ _)) (@af _ _ _ _)) (fun _ _=>rfl)) (by rfl) (by first|exact .inl rfl|exact .inr rfl|assumption)) (@ah _ _ _ _ _ (@aX _ _ _ _ _ _ _ _ (@aE _ _ _ _ _ _ _ _ (@uV _) (@aw _ _ _ _ _ _ _ _ (@bt _) (pv 3) (@af _ _ _ _)) (@af _ _ _ _) (aM _)) (@ak _ _ _ (@aG _ _ _ _ (@bD _ _ _ _ _ (@aa _ _ _ _ _ (@aq _ _ _ _ _ _ _ (@ar _) (pv 0) (@af _ _ _ _) (fun _ _=>rfl)) (@aa _ _ _ _ _ (@aq _ _ _ _ _ _ _ (@ar _) (pv 0) (@af _ _ _ _) (fun _ _=>rfl)) (@aa _ _ _ _ _ (@aw _ _ _ _ _ _ _ _ (@cF _) (@aq _ _ _ _ _ _ _ (@ar _) (pv 0) (@af _ _ _ _) (fun _ _=>rfl)) (@aV _ _ _ _ (@aa _ _ _ _ _ (@bD _ _ _ _ _ (@aa _ _ _ _ _ (@aq _ _ _ _ _ _ _ (@ar _) (pv 5) (@af _ _ _ _) (fun _ _=>rfl)) (@aa _ _ _ _ _ (@aq _ _ _ _ _ _ _ (@aJ _) (@aV _ _ _ _ (@aa _ _ _ _ _ (@aF _ _ _ _) (@aa _ _ _ _ _ (@aF _ _ _ _) (@ag _) (by rfl)) (by rfl))) (@aw _ _ _ _ _ _ _ _ (@bt _) (pv 3) (@af _ _ _ _)) (fun _ _=>rfl)) (@aa _ _ _ _ _ (@aq _ _ _ _ _ _ _ (@ar _) (pv 5) (@af _ _ _ _) (fun _ _=>rfl)) (@ag _) (by rfl)) (by rfl)) (by rfl))) (@ag _) (by rfl)))) (@aa _ _ _ _ _ (@aq _ _ _ _ _ _ _ (@ar _) (pv 0) (@af _ _ _ _) (fun _ _=>rfl)) (@aa _ _ _ _ _ (@aq _ _ _ _ _ _ _ (@ar _) (pv 0) (@af _ _ _ _) (fun _ _=>rfl)) (@ag _) (by rfl)) (by rfl)) (by rfl)) (by rfl)) (by rfl))))) (@aI _)) (@ah _ _ _ _ _ (@aX _ _ _ _ _ _ _ _ (@aE _ _ _ _ _ _ _ _ (@uV _) (@aw _ _ _ _ _ _ _ _ (@bt _) (pv 3) (@af _ _ _ _)) (@af _ _ _ _) (aM _)) (@ak _ _ _ (@aG _ _ _ _ (@bD _ _ _ _ _ (@aa _ _ _ _ _ (@aq _ _ _ _ _ _ _ (@ar _) (pv 0) (@af _ _ _ _) (fun _ _=>rfl)) (@aa _ _ _ _ _ (@aq _ _ _ _ _ _ _ (@ar _) (pv 0) (@af _ _ _ _) (fun _ _=>rfl)) (@aa _ _ _ _ _ (@aq _ _ _ _ _ _ _ (@ar _) (pv 0) (@af _ _ _ _) (fun _ _=>rfl)) (@aa _ _ _ _ _ (@aq _ _ _ _ _ _ _ (@ar _) (pv 0) (@af _ _ _ _) (fun _ _=>rfl)) (@aa _ _ _ _ _ (@aw _ _ _ _ _ _ _ _ (@cF _) (@aq _ _ _ _ _ _ _ (@ar _) (pv 0) (@af _ _ _ _) (fun _ _=>rfl)) (@aV _ _ _ _ (@aa _ _ _ _ _ (pv 5) (@ag _) (by rfl)))) (@ag _) (by rfl)) (by rfl)) (by rfl)) (by rfl)) (by rfl))))) (@aI _)) (@ah _ _ _ _ _ (@ie _ (6) _ _ _ _ _ _ _ _ _ _ _ _ _ [5] dI.nd rfl (aaM rfl) rfl (by kernel_rfl) (@aT _ _ _ _ (pv 1)) (fun _ _ _ _ _=>(@jB _ _ _ (@cW _ _ _ (@aq _ _ _ _ _ _ (nA K) (@ar _) (pv 0) (@af _ _ _ _) (fun _ _=>rfl)) (by intro _;rfl)))) (fun _ _ _ _ _=>(@bD _ _ _ _ _ (@aa _ _ _ _ _ (@aq _ _ _ _ _ _ (nA K) (@ar _) (pv 0) (@af _ _ _ _) (fun _ _=>rfl)) (@aa _ _ _ _ _ (@cX _ _ _ _ _ _ _ _ _ (@Aj _ (K) rfl) rfl j5 PyProof.Rows.Boot.«tuple» (@aa _ _ _ _ _ (@bG _ _ _ _ _ _ _ _ _ _ _ [1] rfl (by kernel_rfl) (@cC _ _ _ _ _ _ rfl bY (@aa _ _ _ _ _ (@aq _ _ _ _ _ _ (nA K) (@ar _) (pv 0) (@af _ _ _ _) (fun _ _=>rfl)) (@ag _) (by rfl)) (by rfl)) (fun _ _ _ _ _=>(@bE _)) (fun _ _ _ _ _=>(@aq _ _ _ _ _ _ (nA K) (@ar _) (pv 1) (@aw _ _ _ _ _ _ _ _ (@bt _) (pv 0) (@af _ _ _ _)) (fun _ _=>rfl))) (by intro _;rfl)) (@ag _) (by rfl)) (by decide) (by decide) (by rfl) (by rfl)) (@ag _) (by rfl)) (by rfl)))) (by rfl) (by intro _;rfl) (by first|exact .inl rfl|exact .inr rfl|assumption)) (@ak _ _ _ (@aG _ _ _ _ (@bD _ _ _ _ _ (@aa _ _ _ _ _ (@aq _ _ _ _ _ _ _ (@ar _) (pv 0) (@af _ _ _ _) (fun _ _=>rfl)) (@aa _ _ _ _ _ (@aq _ _ _ _ _ _ _ (@ar _) (pv 0) (@af _ _ _ _) (fun _ _=>rfl)) (@aa _ _ _ _ _ (@aq _ _ _ _ _ _ _ (@ar _) (pv 0) (@af _ _ _ _) (fun _ _=>rfl)) (@aa _ _ _ _ _ (@aw _ _ _ _ _ _ _ _ (@cF _) (@aV _ _ _ _ (@aa _ _ _ _ _ (@aq _ _ _ _ _ _ _ (@aJ _) (pv 6) (@aw _ _ _ _ _ _ _ _ (@bt _) (@aw _ _ _ _ _ _ _ _ (@cK _) (pv 3) (@af _ _ _ _)) (@aK _ _ _ _ _ _ _ _ _ (@aB _) rfl aY aaF (@aa _ _ _ _ _ (pv 6) (@ag _) (by rfl)) (by decide) (by decide) (by rfl) (by rfl))) (fun _ _=>rfl)) (@ag _) (by rfl))) (@aq _ _ _ _ _ _ _ (@ar _) (pv 0) (@af _ _ _ _) (fun _ _=>rfl))) (@aa _ _ _ _ _ (@aq _ _ _ _ _ _ _ (@ar _) (pv 0) (@af _ _ _ _) (fun _ _=>rfl)) (@ag _) (by rfl)) (by rfl)) (by rfl)) (by rfl)) (by rfl)))))))))),?_⟩
 have zk:=aao pk
 have h4:=Fb.len
 have hfew:=hW.few
 unfold Iq at hfew
 have Lu:0<ks.length:=by omega
 have hv0:0<kvs.length:=by omega
 obtain⟨tk,Qf,Oh⟩:=paired_at pk 0 Lu hv0
 have a0:lu kvs 0=some (.ref tk):=by rw [← Qf];exact bz (j:=0) (Ge9 hv0)
 have YQ:=(Fb.ok _ (aap Lu)).1
 generalize ks[0].n=wd at Oh YQ
 refine⟨_,rfl,lk,_,0,_,rfl,rfl,aL.of hk,a0,tk,_,0,_,rfl,rfl,Oh,rfl,?_⟩
 refine⟨_,rfl,_,rfl,(by show 2≤aaj;decide),fun t1 Ao=>?_⟩
 have s1:=aj Ao (.tup [tx nm,tx wd])
 have h1:=ae (H:=H) (a:=t1) (o:=.tup [tx nm,tx wd])
 generalize upd H t1 (.tup [tx nm,tx wd])=H1 at s1 h1 ⊢
 refine⟨_,rfl,_,rfl,(by show 2≤aaj;decide),fun t2 qo=>?_⟩
 have s2:=aj qo (.tup [tx wd,tx nm])
 have h2:=ae (H:=H1) (a:=t2) (o:=.tup [tx wd,tx nm])
 have MG:=s2 _ _ h1
 generalize upd H1 t2 (.tup [tx wd,tx nm])=H2 at s2 h2 MG ⊢
 refine⟨(by show 2≤aaj;decide),fun l3 Du=>?_⟩
 have s3:=aj Du (.lst [V.ref t1,.ref t2])
 have h3:=ae (H:=H2) (a:=l3) (o:=.lst [V.ref t1,.ref t2])
 have hw3:=s3 _ _ h2
 have hn3:=s3 _ _ MG
 generalize upd H2 l3 (.lst [V.ref t1,.ref t2])=H3 at s3 h3 hw3 hn3 ⊢
 have sA:=ai.trans s1 (ai.trans s2 s3)
 obtain⟨j,hj,ej⟩:=f9 (xs:=[V.ref t1,.ref t2]) (v:=n / 5) (show 1≤2 by decide)
 have ej:lu [V.ref t1,.ref t2] (n / 5 % 2)=_:=ej
 obtain⟨tw,x,y,etw,Vv,hx,hy⟩:∃tw x y,[V.ref t1,.ref t2][j]=.ref tw∧H3 tw=some (.tup [tx x,tx y])∧aD x=true∧aD y=true:=by
  match j,hj with
  | 0,_=>exact⟨t1,nm,wd,rfl,hn3,nD,cu YQ⟩
  | 1,_=>exact⟨t2,wd,nm,rfl,hw3,cu YQ,nD⟩
 rw [etw] at ej
 refine⟨_,rfl,_,_,rfl,rfl,⟨by decide,by decide⟩,_,_,rfl,rfl,(by show(0:Int)<2;decide),l3,_,_,_,rfl,rfl,aL.of h3,ej,?_⟩
 have md:=mid (a:=n) (b:=5) (by decide)
 obtain⟨m5,e5,h5⟩:∃m:Nat,n % 5=(m:Int)∧m<5:=⟨(n % 5).toNat,by omega,by omega⟩
 refine bW ?_
 dsimp only
 refine dE (Good:=fun σ' H'=>H'=H3∧σ'=[some (.ref t),some (.ref lk),some (tx nm),some (.int n),some (tx wd),some (.ref tw),none]∧2≤m5) (fun fin=>?_) (fun σ' H' hg=>?_)
 ·refine⟨_,rfl,_,_,rfl,rfl,(by show(0:Int)<5;decide),_,_,rfl,rfl,_,rfl,?_⟩
  rw [e5]
  by_cases hm:m5<2
  ·rw [decide_eq_true (show(m5:Int)<2 by omega)]
   refine cL ?_
   have MU:=hT.same sA
   refine⟨_,rfl,t,_,0,_,rfl,rfl,MU,rfl,_,rfl,t,_,1,_,rfl,rfl,MU,rfl,_,rfl,t,_,2,_,rfl,rfl,MU,rfl,_,rfl,tw,_,0,_,rfl,rfl,bT.of Vv,rfl,(by show 2≤aaj;decide),fun l6 Od=>?_⟩
   have s4:=aj Od (.lst [V.str (aaf "same"),V.str (aaf "unlike")])
   have h6:=ae (H:=H3) (a:=l6) (o:=.lst [V.str (aaf "same"),V.str (aaf "unlike")])
   generalize upd H3 l6 (.lst [V.str (aaf "same"),V.str (aaf "unlike")])=H4 at s4 h6 ⊢
   have Yv:lu [V.str (aaf "same"),V.str (aaf "unlike")] (n % 5)=some (tx (gK (decide (m5=0)))):=by rw [e5];exact GA hm
   refine⟨_,rfl,_,_,rfl,rfl,(by show(0:Int)<5;decide),l6,_,_,_,rfl,rfl,aL.of h6,Yv,_,rfl,tw,_,1,_,rfl,rfl,bT.of (s4 _ _ Vv),rfl,(by show 3≤aaj;decide),fun t7 T3=>?_⟩
   have s5:=aj T3 (.tup [tx x,tx (gK (decide (m5=0))),tx y])
   have h7:=ae (H:=H4) (a:=t7) (o:=.tup [tx x,tx (gK (decide (m5=0))),tx y])
   generalize upd H4 t7 (.tup [tx x,tx (gK (decide (m5=0))),tx y])=H5 at s5 h7 ⊢
   refine⟨(by show 1≤aaj;decide),fun l8 MQ=>?_⟩
   have s6:=aj MQ (.lst [V.ref t7])
   have h8:=ae (H:=H5) (a:=l8) (o:=.lst [V.ref t7])
   have h78:=s6 _ _ h7
   generalize upd H5 l8 (.lst [V.ref t7])=H6 at s6 h8 h78 ⊢
   have sB:=ai.trans sA (ai.trans s4 (ai.trans s5 s6))
   obtain⟨lv,MV,pl⟩:=hL.sm sB
   have zl:=aao pl
   refine⟨l,l8,_,_,rfl,rfl,MV,h8,(by rw [aax];show _+1≤_;omega),fun l9 HG=>?_⟩
   have s7:=aj HG (.lst (lv++[V.ref t7]))
   have h9:=ae (H:=H6) (a:=l9) (o:=.lst (lv++[V.ref t7]))
   generalize upd H6 l9 (.lst (lv++[V.ref t7]))=H7 at s7 h9 ⊢
   have sC:=ai.trans sB s7
   refine⟨_,rfl,t,_,3,_,rfl,rfl,hT.same sC,rfl,_,rfl,t,_,4,_,rfl,rfl,hT.same sC,rfl,(by show 5≤aaj;decide),fun tt Cb=>?_⟩
   have s8:=aj Cb (.tup [.ref a,.ref b,.ref l9,.ref g,.ref p])
   have sD:=ai.trans sC s8
   have Ot:=ai.trans s7 s8
   refine q tt ⟨[],r.take,r.keep,r.aO++[⟨decide (m5=0),x,y⟩],r.put,r.tell⟩ _ sD ⟨a,b,l9,g,p,bT.of ae,⟨na,nb,(ai.trans GB sB).free HG,ng,np⟩,hA.sm sD,hB.sm sD,⟨_,s8 _ _ h9,a7 (ax pl fun _ _ _=>nQ.sm Ot) (.cons ⟨t7,rfl,bT.of (Ot _ _ h78)⟩ .nil)⟩,hG.sm sD,hP.sm sD⟩ ⟨fun g hg=>⟨(hW.f g hg).1,(hW.f g hg).2.1,by have:=(hW.f g hg).2.2;omega⟩,fun k hk=>?_,hW.p,hW.hd,?_⟩
   ·rcases aaq.mp hk with z|z
    ·exact hW.l k z
    ·rw [aal.mp z]
     exact⟨hx,hy⟩
   ·show r.take.length≤4∧r.keep.length≤4∧(r.aO++[(⟨decide (m5=0),x,y⟩:Lk)]).length≤4∧r.put.length≤4∧r.tell.length≤4
    rw [aag,abk]
    omega
  ·rw [decide_eq_false (show ¬ (m5:Int)<2 by omega)]
   exact bo (fin _ _ ⟨rfl,rfl,by omega⟩)
 obtain⟨rfl,rfl,hm2⟩:=hg
 refine dE (Good:=fun σ' ig=>ig=H'∧σ'=[some (.ref t),some (.ref lk),some (tx nm),some (.int n),some (tx wd),some (.ref tw),none]) (fun fin=>?_) (fun σ' ig hg=>?_)
 ·refine⟨_,rfl,_,_,rfl,rfl,(by show(0:Int)<5;decide),_,_,rfl,rfl,_,rfl,?_⟩
  rw [e5]
  by_cases hm:m5<4
  ·rw [decide_eq_true (show(m5:Int)<4 by omega)]
   refine cL ?_
   have MU:=hT.same sA
   refine⟨_,rfl,t,_,0,_,rfl,rfl,MU,rfl,_,rfl,t,_,1,_,rfl,rfl,MU,rfl,_,rfl,t,_,2,_,rfl,rfl,MU,rfl,_,rfl,t,_,3,_,rfl,rfl,MU,rfl,_,rfl,t,_,4,_,rfl,rfl,MU,rfl,_,rfl,(by show 1≤aaj;decide),fun l8 MQ=>?_⟩
   have s6:=aj MQ (.lst [V.ref tw])
   have h8:=ae (H:=H') (a:=l8) (o:=.lst [V.ref tw])
   have T4:=s6 _ _ Vv
   generalize upd H' l8 (.lst [V.ref tw])=H6 at s6 h8 T4 ⊢
   have sB:=ai.trans sA s6
   obtain⟨lv,MV,pl⟩:=hP.sm sB
   have zl:=aao pl
   refine⟨p,l8,_,_,rfl,rfl,MV,h8,(by rw [aax];show _+1≤_;omega),fun l9 HG=>?_⟩
   have s7:=aj HG (.lst (lv++[V.ref tw]))
   have h9:=ae (H:=H6) (a:=l9) (o:=.lst (lv++[V.ref tw]))
   generalize upd H6 l9 (.lst (lv++[V.ref tw]))=H7 at s7 h9 ⊢
   have sC:=ai.trans sB s7
   refine⟨(by show 5≤aaj;decide),fun tt Cb=>?_⟩
   have s8:=aj Cb (.tup [.ref a,.ref b,.ref l,.ref g,.ref l9])
   have sD:=ai.trans sC s8
   have Ot:=ai.trans s7 s8
   refine q tt ⟨[],r.take,r.keep,r.aO,r.put,r.tell++[(x,y)]⟩ _ sD ⟨a,b,l,g,l9,bT.of ae,⟨na,nb,nl,ng,(ai.trans GB sB).free HG⟩,hA.sm sD,hB.sm sD,hL.sm sD,hG.sm sD,⟨_,s8 _ _ h9,a7 (ax pl fun _ _ _ ⟨t,e,z⟩=>⟨t,e,z.same Ot⟩) (.cons ⟨tw,rfl,bT.of (Ot _ _ T4)⟩ .nil)⟩⟩ ⟨fun g hg=>⟨(hW.f g hg).1,(hW.f g hg).2.1,by have:=(hW.f g hg).2.2;omega⟩,hW.l,fun k hk=>?_,hW.hd,?_⟩
   ·rcases aaq.mp hk with z|z
    ·exact hW.p k z
    ·rw [aal.mp z]
     exact⟨hx,hy⟩
   ·show r.take.length≤4∧r.keep.length≤4∧r.aO.length≤4∧r.put.length≤4∧(r.tell++[(x,y)]).length≤4
    rw [aag,abk]
    omega
  ·rw [decide_eq_false (show ¬ (m5:Int)<4 by omega)]
   exact bo (fin _ _ ⟨rfl,rfl⟩)
 obtain⟨rfl,rfl⟩:=hg
 have hkA:=sA _ _ hk
 have pkA:Paired (Kind K ig) ks kvs:=ax pk fun _ _ _=>Kind.sm sA
 have hxy:∀k:Nat,aD (if k % 2=0 then x else y)=true:=fun k=>by split;exact hx;exact hy
 refine⟨_,rfl,lk,rfl,⟨_,aL.of hkA⟩,fun D hD=>?_⟩
 refine gF (K:=K) (xs:=kvs) ks (·.l) (fun b:Kd=>(⟨b.n,(abC b.c).map fun k=>if k % 2=0 then x else y⟩:Fc)) (fun _ H f v=>Fact K H f v) (fun _ _ _ _ _ k h=>Fact.keep k h) (fun _ _ _ _ _ _ h=>h) (iC (by omega)) hD (aL.of hkA) zk (fun i v b H' R hv hb sm hQ=>?_) (fun i v b H' R hv hb Vp sm hQ=>?_) (fun H4 ys s4 Eg po=>?_)
 ·obtain⟨hi,ex⟩:=aN hv
  obtain⟨dw,eb⟩:=aN hb
  have wu:=paired_at pkA i dw hi
  rw [ex,eb] at wu
  obtain⟨t,rfl,ht⟩:=wu
  exact⟨_,rfl,t,_,2,_,rfl,rfl,ht.same sm,rfl,_,rfl,hQ _ (ai.refl _)⟩
 ·obtain⟨hi,ex⟩:=aN hv
  obtain⟨dw,eb⟩:=aN hb
  have wu:=paired_at pkA i dw hi
  rw [ex,eb] at wu
  have hbc:b.c≤2:=by rw [← eb];exact yJ _ (aap dw)
  obtain⟨t5,rfl,ht⟩:=wu
  have ht:=ht.same sm
  refine⟨_,rfl,t5,_,0,_,rfl,rfl,ht,rfl,_,rfl,t5,_,1,_,rfl,rfl,ht,rfl,(b.c:Int),rfl,by omega,by omega,fun D2 kO=>?_⟩
  refine dU (n:=((b.c:Nat):Int).toNat) (lo:=0) (by rw [abr];exact iC (by omega)) (fun i ys H2=>ai H' H2∧H2 D2=some (.lst ys)∧ys=((abC i).map fun k=>if k % 2=0 then x else y).map tx) ⟨aj kO _,ae,rfl⟩ (fun i ys H2 p=>⟨p.2.1,?_⟩) (fun i ys H2 Vs p=>?_) (fun ys H2 p=>?_)
  ·rw [p.2.2,Lm9,Lm9,List.length_range]
   exact aaz _
  ·obtain⟨nM,xg,rfl⟩:=p
   unfold xq
   simp only [if_true]
   have YO:lu [tx x,tx y] ((0+(i:Int)) % 2)=some (tx (if i % 2=0 then x else y)):=by
    rw [show(0+(i:Int)) % 2=((i % 2:Nat):Int) by omega]
    rcases(by omega:i % 2=0∨i % 2=1) with e|e <;> rw [e]
    ·exact bz (j:=0) rfl
    ·exact bz (j:=1) rfl
   refine⟨_,rfl,_,rfl,_,_,rfl,rfl,(by show(0:Int)<2;decide),tw,_,_,_,rfl,rfl,bT.of (nM _ _ (sm _ _ Vv)),YO,?_⟩
   refine⟨xg,ai.aR nM kO _,ae,?_⟩
   rw [acT,aat,aat]
   rfl
  ·obtain⟨nM,xg,rfl⟩:=p
   rw [abr] at xg
   refine⟨D2,_,rfl,.inl ⟨aL.of xg,fun t6 YR=>?_⟩⟩
   have u1:=aj YR (.tup (((abC b.c).map fun k=>if k % 2=0 then x else y).map tx))
   refine⟨(by show 2≤aaj;decide),fun t7 T3=>?_⟩
   have u2:=aj T3 (.tup [tx b.n,.ref t6])
   exact hQ _ _ (ai.trans nM (ai.trans u1 u2)) ⟨t7,t6,rfl,bT.of ae,bT.of (u2 _ _ ae)⟩
 have zy:=aao po
 rw [Lm9] at zy
 have hy1:1≤(ks.filter (·.l)).length:=by
  obtain⟨k,hk,e⟩:=Fb.yes
  have z:k∈ks.filter (·.l):=abf.mpr ⟨hk,e⟩
  cases hh:ks.filter (·.l) with
  | nil=>rw [hh] at z;cases z
  | cons a r=>simp
 have hy4:(ks.filter (·.l)).length≤ks.length:=abK _ _
 obtain⟨j,hj,ej⟩:=f9 (xs:=ys) (v:=n / 10) (by omega)
 have K1:j<(ks.filter (·.l)).length:=by omega
 have Rg:=paired_at po j (by rw [Lm9];exact K1) hj
 rw [aaG] at Rg
 have Qu:(ks.filter (·.l))[j]∈ks:=(abf.mp (aap K1)).1
 generalize (ks.filter (·.l))[j]=kd at Rg Qu
 have sB:=ai.trans sA s4
 have MW:=hT.same sB
 refine bW ?_
 dsimp only
 refine⟨_,rfl,t,_,0,_,rfl,rfl,MW,rfl,_,rfl,t,_,1,_,rfl,rfl,MW,rfl,_,rfl,t,_,2,_,rfl,rfl,MW,rfl,_,rfl,_,rfl,_,_,rfl,rfl,⟨by decide,by decide⟩,_,rfl,D,_,rfl,.inl (aL.of Eg),_,_,rfl,rfl,(by show(0:Int)<(ys.length:Int);omega),D,_,_,_,rfl,rfl,aL.of Eg,ej,(by show 1≤aaj;decide),fun l8 MQ=>?_⟩
 have s6:=aj MQ (.lst [ys[j]])
 have h8:=ae (H:=H4) (a:=l8) (o:=.lst [ys[j]])
 have hF6:=Fact.sm s6 Rg
 generalize upd H4 l8 (.lst [ys[j]])=H6 at s6 h8 hF6 ⊢
 have sC:=ai.trans sB s6
 obtain⟨gv,Ou,pg⟩:=hG.sm sC
 have zg:=aao pg
 refine⟨_,rfl,t,_,3,_,rfl,rfl,hT.same sC,rfl,l8,g,_,_,rfl,rfl,h8,Ou,(by rw [aax];show 1+_≤_;omega),fun l9 HG=>?_⟩
 have s7:=aj HG (.lst ([ys[j]]++gv))
 have h9:=ae (H:=H6) (a:=l9) (o:=.lst ([ys[j]]++gv))
 generalize upd H6 l9 (.lst ([ys[j]]++gv))=H7 at s7 h9 ⊢
 have sD:=ai.trans sC s7
 refine⟨_,rfl,t,_,4,_,rfl,rfl,hT.same sD,rfl,(by show 5≤aaj;decide),fun tt Cb=>?_⟩
 have s8:=aj Cb (.tup [.ref a,.ref b,.ref l,.ref l9,.ref p])
 have sE:=ai.trans sD s8
 have Ot:=ai.trans s7 s8
 refine q tt ⟨[],r.take,r.keep,r.aO,⟨kd.n,(abC kd.c).map fun k=>if k % 2=0 then x else y⟩::r.put,r.tell⟩ _ sE ⟨a,b,l,l9,p,bT.of ae,⟨na,nb,nl,(ai.trans GB sC).free HG,np⟩,hA.sm sE,hB.sm sE,hL.sm sE,⟨_,s8 _ _ h9,.cons (Fact.sm Ot hF6) (ax pg fun _ _ _=>Fact.sm Ot)⟩,hP.sm sE⟩ ⟨fun g hg=>?_,hW.l,hW.p,hW.hd,?_⟩
 ·have old:g∈r.take++(r.keep++r.put)→a6 g.k=true∧(∀a∈g.as,aD a=true)∧g.as.length≤3:=fun h=>⟨(hW.f g h).1,(hW.f g h).2.1,by have:=(hW.f g h).2.2;omega⟩
  rcases aaq.mp hg with z|z
  ·exact old (aas _ z)
  ·rcases aaq.mp z with z|z
   ·exact old (aah _ (aas _ z))
   ·rcases aaN.mp z with z|z
    ·rw [z]
     refine⟨(Fb.ok kd Qu).1,fun a ha=>?_,?_⟩
     ·obtain⟨k,_,rfl⟩:=aay.mp ha
      exact hxy k
     ·show((abC kd.c).map fun k=>if k % 2=0 then x else y).length≤3
      rw [Lm9,List.length_range]
      have:=yJ kd Qu
      omega
    ·exact old (aah _ (aah _ z))
 ·show r.take.length≤4∧r.keep.length≤4∧r.aO.length≤4∧r.put.length+1≤4∧r.tell.length≤4
  omega
end
end ft
namespace ft
open PySem L2 cR Bk
set_option maxHeartbeats 4000000
section
variable {P:aaS} {w:abg} {K:aae} {mg:Str→Option aai} {base:Heap} {f:aaB} {fd:aa9} {c:Cl}
theorem dN:aC ["_law_rule_here","_law_kinds_here","_law_strangers","_law_number","_law_fault_here","_law_rest","_law_kind","_law_fact_here","_law_at"] ["_law_rule_here","_law_kinds_here","_law_strangers","_law_number","_law_fault_here"] (au gQ):=⟨rfl,rfl,rfl,by decide +kernel,rfl,by decide +kernel,by decide +kernel⟩
theorem uu (F:dn K "_law_spoiled" "_law_spoiled" gQ f fd) (eB:dz P w K mg base "_law_spoiled_fact" 2 ["_law_rule_here","_law_stranger","_law_number","_law_fault_here"] (vL K)) (fj:dz P w K mg base "_law_stray_name" 1 ["_law_rule_here","_law_kinds_here","_law_name","_law_number"] (Gx K)) (aY:mg "len"=none) (bY:mg "range"=none) (j5:mg "tuple"=none):a4 P w K mg base dJ 3 f fd ["_law_rule_here","_law_kinds_here","_law_strangers","_law_number","_law_fault_here"] (vM K):=by
 refine F.ok dN (fun vs H Q E h=>?_) (fun cJ A outer s H vs Q E hr h=>?_)
 ·obtain⟨HB,t,lk,ls,r,ks,s0,s1,n,fa,rfl,_⟩:=h
  rfl
 obtain⟨HB,t,lk,ls,r,ks,s0,s1,n,fa,rfl,GB,YS,hW,hK,Fb,yJ,HD,YT,Qi,q⟩:=h
 refine⟨_,(@ah _ _ _ _ _ (@aX _ _ _ _ _ _ _ _ (@aE _ _ _ _ _ _ _ _ (@uV _) (pv 4) (@af _ _ _ _) (aM _)) (@ak _ _ _ (@aG _ _ _ _ (@ao _ _ _ _ _ _ _ _ _ _ eB (hr.mono (by decide)) rfl (@aa _ _ _ _ _ (pv 0) (@aa _ _ _ _ _ (@aq _ _ _ _ _ _ _ (@aJ _) (pv 2) (@af _ _ _ _) (fun _ _=>rfl)) (@aa _ _ _ _ _ (pv 3) (@aa _ _ _ _ _ (pv 4) (@ag _) (by rfl)) (by rfl)) (by rfl)) (by rfl)) (by decide) (by rfl) (by rfl)))) (@aI _)) (@ah _ _ _ _ _ (@aX _ _ _ _ _ _ _ _ (@aE _ _ _ _ _ _ _ _ (@cg _) (pv 4) (@af _ _ _ _) (aM _)) (@ak _ _ _ (@aG _ _ _ _ (@ao _ _ _ _ _ _ _ _ _ _ fj (hr.mono (by decide)) rfl (@aa _ _ _ _ _ (pv 0) (@aa _ _ _ _ _ (pv 1) (@aa _ _ _ _ _ (@aq _ _ _ _ _ _ _ (@aJ _) (pv 2) (@af _ _ _ _) (fun _ _=>rfl)) (@aa _ _ _ _ _ (pv 3) (@ag _) (by rfl)) (by rfl)) (by rfl)) (by rfl)) (by decide) (by rfl) (by rfl)))) (@aI _)) (@ah _ _ _ _ _ (@ie _ (5) _ _ _ _ _ _ _ _ _ _ _ _ _ [4] dN.nd rfl (aaM rfl) rfl (by kernel_rfl) (@aT _ _ _ _ (pv 1)) (fun _ _ _ _ _=>(@jB _ _ _ (@aE _ _ _ _ _ _ _ _ (@cg _) (@aq _ _ _ _ _ _ (nA K) (@ar _) (pv 0) (@af _ _ _ _) (fun _ _=>rfl)) (@cZ _ _ _ _ _ _ _ _ (@cg _) (pv 1) (@af _ _ _ _) (aM _)) (aM _)))) (fun _ _ _ _ _=>(pv 0)) (by rfl) (by intro _;rfl) (by first|exact .inl rfl|exact .inr rfl|assumption)) (@ah _ _ _ _ _ (@ay _ _ (6) _ _ _ _ dN.nd rfl (aaM rfl) (@aq _ _ _ _ _ _ _ (@aJ _) (pv 5) (@aw _ _ _ _ _ _ _ _ (@bt _) (pv 3) (@aK _ _ _ _ _ _ _ _ _ (@aB _) rfl aY aaF (@aa _ _ _ _ _ (pv 5) (@ag _) (by rfl)) (by decide) (by decide) (by rfl) (by rfl))) (fun _ _=>rfl)) (by rfl) (by first|exact .inl rfl|exact .inr rfl|assumption)) (@ah _ _ _ _ _ (@ay _ _ (7) _ _ _ _ dN.nd rfl (aaM rfl) (@bD _ _ _ _ _ (@aa _ _ _ _ _ (@aq _ _ _ _ _ _ _ (@ar _) (pv 6) (@af _ _ _ _) (fun _ _=>rfl)) (@aa _ _ _ _ _ (@cX _ _ _ _ _ _ _ _ _ (@fJ _) rfl j5 PyProof.Rows.Boot.«tuple» (@aa _ _ _ _ _ (@bG _ _ _ _ _ _ _ _ _ _ _ [1] rfl (by kernel_rfl) (@cC _ _ _ _ _ _ rfl bY (@aa _ _ _ _ _ (@aq _ _ _ _ _ _ _ (@ar _) (pv 6) (@af _ _ _ _) (fun _ _=>rfl)) (@ag _) (by rfl)) (by rfl)) (fun _ _ _ _ _=>(@bE _)) (fun _ _ _ _ _=>(@aq _ _ _ _ _ _ (nA K) (@ar _) (@aq _ _ _ _ _ _ (GZ K) (@aJ _) (pv 1) (pv 0) (fun _ _=>rfl)) (@af _ _ _ _) (fun _ _=>rfl))) (by intro _;rfl)) (@ag _) (by rfl)) (by decide) (by decide) (by rfl) (by rfl)) (@ag _) (by rfl)) (by rfl))) (by rfl) (by first|exact .inl rfl|exact .inr rfl|assumption)) (@ah _ _ _ _ _ (@aX _ _ _ _ _ _ _ _ (@aE _ _ _ _ _ _ _ _ (@cg _) (pv 4) (@af _ _ _ _) (aM _)) (@ak _ _ _ (@aG _ _ _ _ (@bD _ _ _ _ _ (@aa _ _ _ _ _ (@aV _ _ _ _ (@ag _)) (@aa _ _ _ _ _ (@aw _ _ _ _ _ _ _ _ (@cF _) (@aq _ _ _ _ _ _ _ (@ar _) (pv 0) (@af _ _ _ _) (fun _ _=>rfl)) (@aq _ _ _ _ _ _ _ (@ar _) (pv 0) (@af _ _ _ _) (fun _ _=>rfl))) (@aa _ _ _ _ _ (@aq _ _ _ _ _ _ _ (@ar _) (pv 0) (@af _ _ _ _) (fun _ _=>rfl)) (@aa _ _ _ _ _ (@aw _ _ _ _ _ _ _ _ (@cF _) (@aq _ _ _ _ _ _ _ (@ar _) (pv 0) (@af _ _ _ _) (fun _ _=>rfl)) (@aV _ _ _ _ (@aa _ _ _ _ _ (pv 7) (@ag _) (by rfl)))) (@aa _ _ _ _ _ (@aq _ _ _ _ _ _ _ (@ar _) (pv 0) (@af _ _ _ _) (fun _ _=>rfl)) (@ag _) (by rfl)) (by rfl)) (by rfl)) (by rfl)) (by rfl))))) (@aI _)) (@ah _ _ _ _ _ (@ay _ _ (8) _ _ _ _ dN.nd rfl (aaM rfl) (@aw _ _ _ _ _ _ _ _ (@bt _) (@aw _ _ _ _ _ _ _ _ (@cK _) (pv 3) (@af _ _ _ _)) (@aw _ _ _ _ _ _ _ _ (@cE _) (@aK _ _ _ _ _ _ _ _ _ (@aB _) rfl aY aaF (@aa _ _ _ _ _ (@aq _ _ _ _ _ _ _ (@ar _) (pv 0) (@af _ _ _ _) (fun _ _=>rfl)) (@ag _) (by rfl)) (by decide) (by decide) (by rfl) (by rfl)) (@af _ _ _ _))) (by rfl) (by first|exact .inl rfl|exact .inr rfl|assumption)) (@ak _ _ _ (@aG _ _ _ _ (@bD _ _ _ _ _ (@aa _ _ _ _ _ (@aw _ _ _ _ _ _ _ _ (@cF _) (@aw _ _ _ _ _ _ _ _ (@cF _) (@cy _ _ _ _ _ _ _ _ _ _ (@fI _) (@aq _ _ _ _ _ _ _ (@ar _) (pv 0) (@af _ _ _ _) (fun _ _=>rfl)) (@d4 _) (@cv _ _ _ (pv 8))) (@aV _ _ _ _ (@aa _ _ _ _ _ (pv 7) (@ag _) (by rfl)))) (@cy _ _ _ _ _ _ _ _ _ _ (@fI _) (@aq _ _ _ _ _ _ _ (@ar _) (pv 0) (@af _ _ _ _) (fun _ _=>rfl)) (@cv _ _ _ (pv 8)) (@d4 _))) (@aa _ _ _ _ _ (@aq _ _ _ _ _ _ _ (@ar _) (pv 0) (@af _ _ _ _) (fun _ _=>rfl)) (@aa _ _ _ _ _ (@aq _ _ _ _ _ _ _ (@ar _) (pv 0) (@af _ _ _ _) (fun _ _=>rfl)) (@aa _ _ _ _ _ (@aq _ _ _ _ _ _ _ (@ar _) (pv 0) (@af _ _ _ _) (fun _ _=>rfl)) (@aa _ _ _ _ _ (@aq _ _ _ _ _ _ _ (@ar _) (pv 0) (@af _ _ _ _) (fun _ _=>rfl)) (@ag _) (by rfl)) (by rfl)) (by rfl)) (by rfl)) (by rfl)))))))))))),?_⟩
 refine dE (Good:=fun σ' H'=>H'=H∧σ'=[some (.ref t),some (.ref lk),some (.ref ls),some (.int n),some (.int fa),none,none,none,none]) (fun fin=>?_) (fun σ' H' hg=>?_)
 ·refine⟨_,rfl,_,_,rfl,rfl,_,rfl,?_⟩
  refine eV (fun _=>?_) (fun _=>fin _ _ ⟨rfl,rfl⟩)
  exact⟨_,rfl,_,rfl,ls,_,0,_,rfl,rfl,aL.of HD,rfl,_,rfl,_,rfl,HB,t,r,s0,n,fa,rfl,GB,YS,hW,YT,q⟩
 obtain⟨rfl,rfl⟩:=hg
 refine dE (Good:=fun σ' ig=>ig=H'∧σ'=[some (.ref t),some (.ref lk),some (.ref ls),some (.int n),some (.int fa),none,none,none,none]) (fun fin=>?_) (fun σ' ig hg=>?_)
 ·refine⟨_,rfl,rfl,_,rfl,?_⟩
  refine eV (fun _=>?_) (fun _=>fin _ _ ⟨rfl,rfl⟩)
  exact⟨_,rfl,_,rfl,_,rfl,ls,_,1,_,rfl,rfl,aL.of HD,rfl,_,rfl,HB,t,lk,r,ks,s1,n,rfl,GB,YS,hW,hK,Fb,yJ,Qi,q⟩
 obtain⟨rfl,rfl⟩:=hg
 obtain⟨a,b,l,g,p,hT,⟨na,nb,nl,ng,np⟩,hA,hB,hL,hG,hP⟩:=id YS
 obtain⟨kvs,hk,pk⟩:=id hK
 have zk:=aao pk
 have h4:=Fb.len
 have hfew:=hW.few
 unfold Iq at hfew
 refine⟨_,rfl,lk,rfl,⟨_,aL.of hk⟩,fun D hD=>?_⟩
 refine gF (K:=K) (xs:=kvs) ks (fun b:Kd=>decide (V.bl b.l=V.bl (decide (V.int fa=V.int 3)))) id (fun _ H f v=>Kind K H f v) (fun _ _ _ _ _ k h=>Kind.keep k h) (fun _ _ _ _ _ _ h=>h) (iC (by omega)) hD (aL.of hk) zk (fun i v b H' R hv hb sm hQ=>?_) (fun i v b H' R hv hb Vp sm hQ=>?_) (fun H4 ys s4 Eg po=>?_)
 ·obtain⟨hi,ex⟩:=aN hv
  obtain⟨dw,eb⟩:=aN hb
  have wu:=paired_at pk i dw hi
  rw [ex,eb] at wu
  obtain⟨t,rfl,ht⟩:=wu
  refine⟨_,rfl,t,_,2,_,rfl,rfl,ht.same sm,rfl,_,rfl,rfl,rfl,_,rfl,hQ _ (ai.refl _)⟩
 ·obtain⟨hi,ex⟩:=aN hv
  obtain⟨dw,eb⟩:=aN hb
  have wu:=paired_at pk i dw hi
  rw [ex,eb] at wu
  exact⟨_,rfl,hQ _ _ (ai.refl _) (Kind.sm sm wu)⟩
 rw [acr] at po
 have zy:=aao po
 have hy1:1≤(ks.filter fun b:Kd=>decide (V.bl b.l=V.bl (decide (V.int fa=V.int 3)))).length:=by
  have z:∃k∈ks,k.l=decide (V.int fa=V.int 3):=by
   cases decide (V.int fa=V.int 3) with
   | true=>exact Fb.yes
   | false=>exact Fb.no
  obtain⟨k,hk,e⟩:=z
  have z:k∈ks.filter fun b:Kd=>decide (V.bl b.l=V.bl (decide (V.int fa=V.int 3))):=abf.mpr ⟨hk,decide_eq_true (by rw [e])⟩
  exact List.length_pos_of_mem z
 obtain⟨j,hj,ej⟩:=f9 (xs:=ys) (v:=n) (by omega)
 have K1:j<(ks.filter fun b:Kd=>decide (V.bl b.l=V.bl (decide (V.int fa=V.int 3)))).length:=by omega
 have Rg:=paired_at po j K1 hj
 have Qu:(ks.filter fun b:Kd=>decide (V.bl b.l=V.bl (decide (V.int fa=V.int 3))))[j]∈ks:=(abf.mp (aap K1)).1
 generalize (ks.filter fun b:Kd=>decide (V.bl b.l=V.bl (decide (V.int fa=V.int 3))))[j]=kd at Rg Qu
 obtain⟨tk,Qf,Oh⟩:=Rg
 rw [Qf] at ej
 have hbc:=yJ kd Qu
 refine bW ?_
 dsimp only
 refine⟨_,rfl,_,rfl,_,rfl,D,_,rfl,.inl (aL.of Eg),_,_,rfl,rfl,(by show(0:Int)<(ys.length:Int);omega),D,_,_,_,rfl,rfl,aL.of Eg,ej,?_⟩
 refine bW ?_
 dsimp only
 have PL:=s4 _ _ hk
 have pk4:Paired (Kind K H4) ks kvs:=ax pk fun _ _ _=>Kind.sm s4
 refine⟨_,rfl,tk,_,0,_,rfl,rfl,Oh,rfl,_,rfl,tk,_,1,_,rfl,rfl,Oh,rfl,(kd.c:Int),rfl,by omega,by omega,fun D2 kO=>?_⟩
 refine dU (n:=((kd.c:Nat):Int).toNat) (lo:=0) (by rw [abr];exact iC (by omega)) (fun i ys H2=>ai H4 H2∧H2 D2=some (.lst ys)∧∃ms:List Cs,ys=ms.map tx∧ms.length=i∧∀m∈ms,aD m=true) ⟨aj kO _,ae,[],rfl,rfl,fun _ h=>nomatch h⟩ (fun i ys H2 p=>⟨p.2.1,?_⟩) (fun i ys H2 Vs p=>?_) (fun ys H5 p=>?_)
 ·obtain⟨_,_,ms,rfl,hm,_⟩:=p
  rw [Lm9]
  omega
 ·obtain⟨nM,xg,ms,rfl,hm,Tw⟩:=p
  unfold xq
  simp only [if_true]
  rw [abr] at Vs
  have Iu:i<ks.length:=by omega
  have hiv:i<kvs.length:=by omega
  obtain⟨t3,e3,Vi⟩:=paired_at pk4 i Iu hiv
  have a2:lu kvs (0+(i:Int))=some (.ref t3):=by rw [acG,← e3];exact bz (Ge9 hiv)
  refine⟨_,rfl,_,rfl,lk,_,_,_,rfl,rfl,aL.of (nM _ _ PL),a2,t3,_,0,_,rfl,rfl,Vi.same nM,rfl,?_⟩
  refine⟨xg,ai.aR nM kO _,ae,ms++[ks[i].n],by rw [aat];rfl,by simp [hm],fun m h=>?_⟩
  rcases aaq.mp h with z|z
  ·exact Tw m z
  ·rw [aal.mp z]
   exact cu (Fb.ok _ (aap Iu)).1
 obtain⟨s5,xg,ms,rfl,hm,Tw⟩:=p
 rw [abr] at hm
 refine⟨D2,_,rfl,.inl ⟨aL.of xg,fun t6 YR=>?_⟩⟩
 have u1:=aj YR (.tup (ms.map tx))
 have h6:=ae (H:=H5) (a:=t6) (o:=.tup (ms.map tx))
 generalize upd H5 t6 (.tup (ms.map tx))=H6 at u1 h6 ⊢
 refine⟨(by show 2≤aaj;decide),fun t7 T3=>?_⟩
 have u2:=aj T3 (.tup [tx kd.n,.ref t6])
 have h7:=ae (H:=H6) (a:=t7) (o:=.tup [tx kd.n,.ref t6])
 have h67:=u2 _ _ h6
 generalize upd H6 t7 (.tup [tx kd.n,.ref t6])=H7 at u2 h7 h67 ⊢
 have hF:Fact K H7 ⟨kd.n,ms⟩ (.ref t7):=⟨t7,t6,rfl,bT.of h7,bT.of h67⟩
 have hFg:a6 kd.n=true∧(∀a∈ms,aD a=true)∧ms.length≤3:=⟨(Fb.ok kd Qu).1,Tw,by omega⟩
 have sB:=ai.trans s4 (ai.trans s5 (ai.trans u1 u2))
 have MW:=hT.same sB
 have old:∀g,g∈r.take++(r.keep++r.put)→a6 g.k=true∧(∀a∈g.as,aD a=true)∧g.as.length≤3:=fun g h=>⟨(hW.f g h).1,(hW.f g h).2.1,by have:=(hW.f g h).2.2;omega⟩
 refine bW ?_
 dsimp only
 refine dE (Good:=fun σ' H'=>H'=H7∧σ'=[some (.ref t),some (.ref lk),some (.ref ls),some (.int n),some (.int fa),some (.ref D),some (.ref tk),some (.ref t7),none]) (fun fin=>?_) (fun σ' H' hg=>?_)
 ·refine⟨_,rfl,rfl,_,rfl,?_⟩
  refine eV (fun _=>?_) (fun _=>fin _ _ ⟨rfl,rfl⟩)
  refine⟨(by show 0≤aaj;decide),fun le hle=>?_⟩
  have v1:=aj hle (.lst [])
  have e1:=ae (H:=H7) (a:=le) (o:=.lst [])
  generalize upd H7 le (.lst [])=H8 at v1 e1 ⊢
  have sC:=ai.trans sB v1
  have Vw:=hT.same sC
  obtain⟨av,T5,pa⟩:=hA.sm sC
  obtain⟨bv,hbv,pb⟩:=hB.sm sC
  have za:=aao pa
  have zb:=aao pb
  refine⟨_,rfl,t,_,0,_,rfl,rfl,Vw,rfl,_,rfl,t,_,1,_,rfl,rfl,Vw,rfl,a,b,_,_,rfl,rfl,T5,hbv,(by rw [aax];omega),fun l1 vh=>?_⟩
  have v2:=aj vh (.lst (av++bv))
  have e2:=ae (H:=H8) (a:=l1) (o:=.lst (av++bv))
  generalize upd H8 l1 (.lst (av++bv))=H9 at v2 e2 ⊢
  have sD:=ai.trans sC v2
  have Qv:=hT.same sD
  obtain⟨gv,Ou,pg⟩:=hG.sm (ai.trans sD (ai.refl _))
  have zg:=aao pg
  refine⟨_,rfl,t,_,2,_,rfl,rfl,Qv,rfl,_,rfl,t,_,3,_,rfl,rfl,Qv,rfl,_,rfl,(by show 1≤aaj;decide),fun l2 i8=>?_⟩
  have v3:=aj i8 (.lst [V.ref t7])
  have e3:=ae (H:=H9) (a:=l2) (o:=.lst [V.ref t7])
  generalize upd H9 l2 (.lst [V.ref t7])=HA at v3 e3 ⊢
  refine⟨g,l2,_,_,rfl,rfl,v3 _ _ Ou,e3,(by rw [aax];show _+1≤_;omega),fun l3 Du=>?_⟩
  have v4:=aj Du (.lst (gv++[V.ref t7]))
  have e4:=ae (H:=HA) (a:=l3) (o:=.lst (gv++[V.ref t7]))
  generalize upd HA l3 (.lst (gv++[V.ref t7]))=HB at v4 e4 ⊢
  have sE:=ai.trans sD (ai.trans v3 v4)
  refine⟨_,rfl,t,_,4,_,rfl,rfl,hT.same sE,rfl,(by show 5≤aaj;decide),fun tt Cb=>?_⟩
  have v5:=aj Cb (.tup [.ref le,.ref l1,.ref l,.ref l3,.ref p])
  have sF:=ai.trans sE v5
  have w9:=ai.trans v3 (ai.trans v4 v5)
  have w8:=ai.trans v2 w9
  refine q tt ⟨[],[],r.take++r.keep,r.aO,r.put++[⟨kd.n,ms⟩],r.tell⟩ _ sF ⟨le,l1,l,l3,p,bT.of ae,⟨(ai.trans GB sB).free hle,(ai.trans GB sC).free vh,nl,(ai.trans GB (ai.trans sD v3)).free Du,np⟩,⟨[],w8 _ _ e1,.nil⟩,⟨_,w9 _ _ e2,ax (a7 pa pb) fun _ _ _=>Fact.sm w8⟩,hL.sm sF,⟨_,v5 _ _ e4,a7 (ax pg fun _ _ _=>Fact.sm w9) (.cons (Fact.sm (ai.trans v1 w8) hF) .nil)⟩,hP.sm sF⟩ ⟨fun g hg=>?_,hW.l,hW.p,hW.hd,?_⟩
  ·have hg:g∈(r.take++r.keep)++(r.put++[⟨kd.n,ms⟩]):=hg
   rcases aaq.mp hg with z|z
   ·rcases aaq.mp z with z|z
    ·exact old g (aas _ z)
    ·exact old g (aah _ (aas _ z))
   ·rcases aaq.mp z with z|z
    ·exact old g (aah _ (aah _ z))
    ·rw [aal.mp z]
     exact hFg
  ·show 0≤4∧(r.take++r.keep).length≤4∧r.aO.length≤4∧(r.put++[(⟨kd.n,ms⟩:Fc)]).length≤4∧r.tell.length≤4
   rw [aag,aag,abk]
   omega
 obtain⟨rfl,rfl⟩:=hg
 obtain⟨av,T5,pa⟩:=hA.sm sB
 have za:=aao pa
 have Ku:∃j2:Nat,j2≤av.length∧n / 2 % ((av.length:Int)+1)=(j2:Int):=by
  have:=mid (a:=n / 2) (b:=(av.length:Int)+1) (by omega)
  exact⟨(n / 2 % ((av.length:Int)+1)).toNat,by omega,by omega⟩
 obtain⟨j2,Ku,Q7⟩:=Ku
 refine⟨_,rfl,_,_,rfl,rfl,⟨by decide,by decide⟩,_,rfl,t,_,0,_,rfl,rfl,MW,rfl,a,_,rfl,.inl (aL.of T5),_,_,rfl,rfl,_,_,rfl,rfl,(by show(0:Int)<(av.length:Int)+1;omega),?_⟩
 have ev:(fun i j:Int=>V.int (i % j)) (n / 2) ((av.length:Int)+1)=V.int (j2:Int):=congrArg V.int Q7
 rw [ev]
 refine bW ?_
 dsimp only
 refine⟨_,rfl,t,_,0,_,rfl,rfl,MW,rfl,_,rfl,_,rfl,a,_,rfl,aL.of T5,fun l1 vh=>?_⟩
 rw [Kg Ku]
 have v1:=aj vh (.lst (av.take j2))
 have e1:=ae (H:=H') (a:=l1) (o:=.lst (av.take j2))
 generalize upd H' l1 (.lst (av.take j2))=H8 at v1 e1 ⊢
 refine⟨_,rfl,(by show 1≤aaj;decide),fun l2 i8=>?_⟩
 have v2:=aj i8 (.lst [V.ref t7])
 have e2:=ae (H:=H8) (a:=l2) (o:=.lst [V.ref t7])
 have e12:=v2 _ _ e1
 generalize upd H8 l2 (.lst [V.ref t7])=H9 at v2 e2 e12 ⊢
 refine⟨l1,l2,_,_,rfl,rfl,e12,e2,(by rw [aaA,aax];show _+1≤_;omega),fun l3 Du=>?_⟩
 have v3:=aj Du (.lst (av.take j2++[V.ref t7]))
 have e3:=ae (H:=H9) (a:=l3) (o:=.lst (av.take j2++[V.ref t7]))
 generalize upd H9 l3 (.lst (av.take j2++[V.ref t7]))=HA at v3 e3 ⊢
 have w1:=ai.trans v1 (ai.trans v2 v3)
 have sC:=ai.trans sB w1
 refine⟨_,rfl,t,_,0,_,rfl,rfl,hT.same sC,rfl,_,rfl,_,rfl,a,_,rfl,aL.of (w1 _ _ T5),fun l4 S2=>?_⟩
 rw [lG Ku]
 have v4:=aj S2 (.lst (av.drop j2))
 have e4:=ae (H:=HA) (a:=l4) (o:=.lst (av.drop j2))
 have e34:=v4 _ _ e3
 generalize upd HA l4 (.lst (av.drop j2))=HB at v4 e4 e34 ⊢
 refine⟨l3,l4,_,_,rfl,rfl,e34,e4,(by rw [aag,aaA,aba,aax];show _+1+_≤_;omega),fun l5 Q0=>?_⟩
 have v5:=aj Q0 (.lst (av.take j2++[V.ref t7]++av.drop j2))
 have e5:=ae (H:=HB) (a:=l5) (o:=.lst (av.take j2++[V.ref t7]++av.drop j2))
 generalize upd HB l5 (.lst (av.take j2++[V.ref t7]++av.drop j2))=HC at v5 e5 ⊢
 have w2:=ai.trans w1 (ai.trans v4 v5)
 have sD:=ai.trans sB w2
 have Qv:=hT.same sD
 refine⟨_,rfl,t,_,1,_,rfl,rfl,Qv,rfl,_,rfl,t,_,2,_,rfl,rfl,Qv,rfl,_,rfl,t,_,3,_,rfl,rfl,Qv,rfl,_,rfl,t,_,4,_,rfl,rfl,Qv,rfl,(by show 5≤aaj;decide),fun tt Cb=>?_⟩
 have v6:=aj Cb (.tup [.ref l5,.ref b,.ref l,.ref g,.ref p])
 have sE:=ai.trans sD v6
 have w3:=ai.trans w2 v6
 have Vj:Paired (Fact K (upd HC tt (.tup [.ref l5,.ref b,.ref l,.ref g,.ref p]))) r.take av:=ax pa fun _ _ _=>Fact.sm w3
 refine q tt ⟨[],r.take.take j2++[⟨kd.n,ms⟩]++r.take.drop j2,r.keep,r.aO,r.put,r.tell⟩ _ sE ⟨l5,b,l,g,p,bT.of ae,⟨(ai.trans GB (ai.trans sC v4)).free Q0,nb,nl,ng,np⟩,⟨_,v6 _ _ e5,a7 (a7 (ip _ Vj) (.cons (Fact.sm w3 hF) .nil)) (ir _ Vj)⟩,hB.sm sE,hL.sm sE,hG.sm sE,hP.sm sE⟩ ⟨fun g hg=>?_,hW.l,hW.p,?_,?_⟩
 ·have hg:g∈(r.take.take j2++[(⟨kd.n,ms⟩:Fc)]++r.take.drop j2)++(r.keep++r.put):=hg
  rcases aaq.mp hg with z|z
  ·rcases aaq.mp z with z|z
   ·rcases aaq.mp z with z|z
    ·exact old g (aas _ (abn z))
    ·rw [aal.mp z]
     exact hFg
   ·exact old g (aas _ (abT z))
  ·exact old g (aah _ z)
 ·show(r.take.take j2++[(⟨kd.n,ms⟩:Fc)]++r.take.drop j2)++r.keep≠[]
  simp
 ·show(r.take.take j2++[(⟨kd.n,ms⟩:Fc)]++r.take.drop j2).length≤4∧r.keep.length≤4∧r.aO.length≤4∧r.put.length≤4∧r.tell.length≤4
  simp only [aag,aaA,aba,abk]
  omega
end
end ft
namespace ft
open PySem L2 cR Bk
set_option maxHeartbeats 4000000
section
variable {P:aaS} {w:abg} {K:aae} {mg:Str→Option aai} {base:Heap} {f:aaB} {fd:aa9} {c:Cl}
def YU (K:aae) (H:Hp) (p:Cs × Cs) (v:V):Prop:=∃t es,v=.ref t∧bT K H t es∧((∃m,es=[tx p.1,m,tx p.2])∨es=[tx p.1,tx p.2])
theorem bZ:aC ["_law_kinds_here","_law_rule_here","_law_fact_here","_law_known_here","_law_said","_law_row","_law_name"] ["_law_kinds_here","_law_rule_here"] (au iN):=⟨rfl,rfl,rfl,by decide +kernel,rfl,by decide +kernel,by decide +kernel⟩
theorem wx (F:dn K "_law_judged" "_law_judged" iN f fd) (gy:dz P w K mg base "_law_fault" 1 ["_law_kinds_here","_law_fact_here"] (CU K)) (gz:dz P w K mg base "_law_lasts" 1 ["_law_kinds_here","_law_fact_here"] (CV K)) (dH:dz P w K mg base "_law_heads" 1 ["_law_facts_here"] (Ai K)) (aY:mg "len"=none):a4 P w K mg base dJ 2 f fd ["_law_kinds_here","_law_rule_here"] (Dm K):=by
 refine F.ok bZ (fun vs H Q E h=>?_) (fun cJ A outer s H vs Q E hr h=>?_)
 ·obtain⟨lk,t,ks,r,rfl,_⟩:=h
  rfl
 obtain⟨lk,t,ks,r,rfl,hK,Fb,⟨a,b,l,g,p,hT,hA,hB,hL,hG,hP⟩,hW,q⟩:=h
 refine⟨_,(@ah _ _ _ _ _ (@b8 _ _ _ _ _ _ _ _ aa0 rfl (@aT _ _ _ _ (@aw _ _ _ _ _ _ _ _ (@cF _) (@aw _ _ _ _ _ _ _ _ (@cF _) (@aq _ _ _ _ _ _ _ (@ar _) (pv 1) (@af _ _ _ _) (fun _ _=>rfl)) (@aq _ _ _ _ _ _ _ (@ar _) (pv 1) (@af _ _ _ _) (fun _ _=>rfl))) (@aq _ _ _ _ _ _ _ (@ar _) (pv 1) (@af _ _ _ _) (fun _ _=>rfl)))) (@bw _ _ (2) _ bZ.nd rfl (aaM rfl) (by first|exact .inl rfl|exact .inr rfl|assumption)) (@ak _ _ _ (@aX _ _ _ _ _ _ _ _ (@aE _ _ _ _ _ _ _ _ (@lD _) (@ao _ _ _ _ _ _ _ _ _ _ gy (hr.mono (by decide)) rfl (@aa _ _ _ _ _ (pv 0) (@aa _ _ _ _ _ (pv 2) (@ag _) (by rfl)) (by rfl)) (by decide) (by rfl) (by rfl)) (@af _ _ _ _) (aM _)) (@ak _ _ _ (@aG _ _ _ _ (@ao _ _ _ _ _ _ _ _ _ _ gy (hr.mono (by decide)) rfl (@aa _ _ _ _ _ (pv 0) (@aa _ _ _ _ _ (pv 2) (@ag _) (by rfl)) (by rfl)) (by decide) (by rfl) (by rfl)))) (@aI _))) (by intro _;rfl)) (@ah _ _ _ _ _ (@b8 _ _ _ _ _ _ _ _ aa0 rfl (@aT _ _ _ _ (@aq _ _ _ _ _ _ _ (@ar _) (pv 1) (@af _ _ _ _) (fun _ _=>rfl))) (@bw _ _ (2) _ bZ.nd rfl (aaM rfl) (by first|exact .inl rfl|exact .inr rfl|assumption)) (@ak _ _ _ (@aX _ _ _ _ _ _ _ _ (@cW _ _ _ (@ao _ _ _ _ _ _ _ _ _ _ gz (hr.mono (by decide)) rfl (@aa _ _ _ _ _ (pv 0) (@aa _ _ _ _ _ (pv 2) (@ag _) (by rfl)) (by rfl)) (by decide) (by rfl) (by rfl)) (by intro _;rfl)) (@ak _ _ _ (@aG _ _ _ _ (@af _ _ _ _))) (@aI _))) (by intro _;rfl)) (@ah _ _ _ _ _ (@aX _ _ _ _ _ _ _ _ (@aE _ _ _ _ _ _ _ _ (@cg _) (@aK _ _ _ _ _ _ _ _ _ (@aB _) rfl aY aaF (@aa _ _ _ _ _ (@aq _ _ _ _ _ _ _ (@ar _) (pv 1) (@af _ _ _ _) (fun _ _=>rfl)) (@ag _) (by rfl)) (by decide) (by decide) (by rfl) (by rfl)) (@af _ _ _ _) (aM _)) (@ak _ _ _ (@b8 _ _ _ _ _ _ _ _ aa0 rfl (@aT _ _ _ _ (@aq _ _ _ _ _ _ _ (@ar _) (pv 1) (@af _ _ _ _) (fun _ _=>rfl))) (@bw _ _ (2) _ bZ.nd rfl (aaM rfl) (by first|exact .inl rfl|exact .inr rfl|assumption)) (@ak _ _ _ (@aX _ _ _ _ _ _ _ _ (@jv _ _ _ _ (@cW _ _ _ (@ao _ _ _ _ _ _ _ _ _ _ gz (hr.mono (by decide)) rfl (@aa _ _ _ _ _ (pv 0) (@aa _ _ _ _ _ (pv 2) (@ag _) (by rfl)) (by rfl)) (by decide) (by rfl) (by rfl)) (by intro _;rfl))) (@ak _ _ _ (@aG _ _ _ _ (@af _ _ _ _))) (@aI _))) (by intro _;rfl))) (@aI _)) (@ah _ _ _ _ _ (@ay _ _ (3) _ _ _ _ bZ.nd rfl (aaM rfl) (@ao _ _ _ _ _ _ _ _ _ _ dH (hr.mono (by decide)) rfl (@aa _ _ _ _ _ (@aw _ _ _ _ _ _ _ _ (@cF _) (@aq _ _ _ _ _ _ _ (@ar _) (pv 1) (@af _ _ _ _) (fun _ _=>rfl)) (@aq _ _ _ _ _ _ _ (@ar _) (pv 1) (@af _ _ _ _) (fun _ _=>rfl))) (@ag _) (by rfl)) (by decide) (by rfl) (by rfl)) (by rfl) (by first|exact .inl rfl|exact .inr rfl|assumption)) (@ah _ _ _ _ _ (@ay _ _ (4) _ _ _ _ bZ.nd rfl (aaM rfl) (@aV _ _ _ _ (@ag _)) (by rfl) (by first|exact .inl rfl|exact .inr rfl|assumption)) (@ah _ _ _ _ _ (@b8 _ _ _ _ _ _ _ _ aa0 rfl (@aT _ _ _ _ (@aw _ _ _ _ _ _ _ _ (@cF _) (@aq _ _ _ _ _ _ _ (@ar _) (pv 1) (@af _ _ _ _) (fun _ _=>rfl)) (@aq _ _ _ _ _ _ _ (@ar _) (pv 1) (@af _ _ _ _) (fun _ _=>rfl)))) (@bw _ _ (5) _ bZ.nd rfl (aaM rfl) (by first|exact .inl rfl|exact .inr rfl|assumption)) (@ak _ _ _ (@ay _ _ (4) _ _ _ _ bZ.nd rfl (aaM rfl) (@aw _ _ _ _ _ _ _ _ (@cF _) (pv 4) (@aV _ _ _ _ (@aa _ _ _ _ _ (@aq _ _ _ _ _ _ _ (@ar _) (pv 5) (@af _ _ _ _) (fun _ _=>rfl)) (@aa _ _ _ _ _ (@aq _ _ _ _ _ _ _ (@ar _) (pv 5) (@aw _ _ _ _ _ _ _ _ (@En _) (@aK _ _ _ _ _ _ _ _ _ (@aB _) rfl aY aaF (@aa _ _ _ _ _ (pv 5) (@ag _) (by rfl)) (by decide) (by decide) (by rfl) (by rfl)) (@af _ _ _ _)) (fun _ _=>rfl)) (@ag _) (by rfl)) (by rfl)))) (by rfl) (by first|exact .inl rfl|exact .inr rfl|assumption))) (by intro _;rfl)) (@ah _ _ _ _ _ (@b8 _ _ _ _ _ _ _ _ aa0 rfl (@aT _ _ _ _ (@aw _ _ _ _ _ _ _ _ (@cF _) (pv 4) (@ao _ _ _ _ _ _ _ _ _ _ dH (hr.mono (by decide)) rfl (@aa _ _ _ _ _ (@aq _ _ _ _ _ _ _ (@ar _) (pv 1) (@af _ _ _ _) (fun _ _=>rfl)) (@ag _) (by rfl)) (by decide) (by rfl) (by rfl)))) (@bw _ _ (6) _ bZ.nd rfl (aaM rfl) (by first|exact .inl rfl|exact .inr rfl|assumption)) (@ak _ _ _ (@aX _ _ _ _ _ _ _ _ (PW.pt (lB (cW (I8 aaC adM adN u9 (aq fW (pv 6) af (fun _ _=>rfl)))) (hV (aE dB (pv 6) (pv 3) (by with_unfolding_all rfl))))) (@ak _ _ _ (@aG _ _ _ _ (@af _ _ _ _))) (@aI _))) (by intro _;rfl)) (@ak _ _ _ (@aG _ _ _ _ (@af _ _ _ _)))))))))),?_⟩
 have hkn:∀k∈ks,k.n.length≤1000:=fun k hk=>by have:=(dW (Fb.ok k hk).1).2;omega
 have GO:∀g∈r.take++(r.keep++r.put),g.k.length≤1000:=fun g hg=>by have:=(dW (hW.f g hg).1).2;omega
 have hfew:=hW.few
 unfold Iq at hfew
 obtain⟨av,ha,pa⟩:=id hA
 obtain⟨bv,hb,pb⟩:=id hB
 obtain⟨gv,hg,pg⟩:=id hG
 have za:=aao pa
 have zb:=aao pb
 have zg:=aao pg
 refine⟨_,rfl,t,_,0,_,rfl,rfl,hT,rfl,_,rfl,t,_,1,_,rfl,rfl,hT,rfl,a,b,_,_,rfl,rfl,ha,hb,(by rw [aax];omega),fun l1 vh=>?_⟩
 have s1:=aj vh (.lst (av++bv))
 have h1:=ae (H:=H) (a:=l1) (o:=.lst (av++bv))
 generalize upd H l1 (.lst (av++bv))=H1 at s1 h1 ⊢
 refine⟨_,rfl,t,_,3,_,rfl,rfl,hT.same s1,rfl,l1,g,_,_,rfl,rfl,h1,s1 _ _ hg,(by rw [aag,aax];omega),fun l2 i8=>?_⟩
 have s2:=aj i8 (.lst ((av++bv)++gv))
 have h2:=ae (H:=H1) (a:=l2) (o:=.lst ((av++bv)++gv))
 have sA:=ai.trans s1 s2
 have x4:Paired (Fact K (upd H1 l2 (.lst ((av++bv)++gv)))) ((r.take++r.keep)++r.put) ((av++bv)++gv):=ax (a7 (a7 pa pb) pg) fun _ _ _=>Fact.sm sA
 generalize upd H1 l2 (.lst ((av++bv)++gv))=H2 at s2 h2 sA x4 ⊢
 have YV:∀g∈(r.take++r.keep)++r.put,g.k.length≤1000:=fun g hg=>GO g (by rw [← aaT];exact hg)
 have Qt:=aao x4
 have Vx:=hK.sm sA
 have q2:∀H',ai H2 H'→Q (.int (judge ks r)) H':=fun H' s=>q H' (ai.trans sA s)
 refine⟨l2,rfl,⟨_,aL.of h2⟩,bP (K:=K) (a:=l2) (xs:=(av++bv)++gv) (fun i σ H'=>H'=H2∧fu ks ((r.take++r.keep)++r.put)=fu ks (((r.take++r.keep)++r.put).drop i)∧∃o,σ=[some (.ref lk),some (.ref t),o,none,none,none,none]) ⟨rfl,rfl,none,rfl⟩ (fun i σ H' _ ⟨e,_⟩=>by rw [e];exact aL.of h2) ?_ ?_⟩
 ·rintro i y σ H' hi ⟨rfl,mI,o,rfl⟩
  obtain⟨sv,ey⟩:=aN hi
  have nq:i<((r.take++r.keep)++r.put).length:=by omega
  have hF:=paired_at x4 i nq sv
  rw [ey] at hF
  have AI:=YV _ (aap nq)
  rw [tF nq] at mI
  generalize ((r.take++r.keep)++r.put)[i]=gf at hF AI mI
  refine⟨_,rfl,_,rfl,lk,y,ks,gf,rfl,Vx,hF,AI,hkn,_,_,rfl,rfl,_,rfl,?_⟩
  by_cases h0:fault ks gf=0
  ·rw [decide_eq_false (show ¬ (0:Int)<((fault ks gf:Nat):Int) by omega)]
   rw [if_pos h0] at mI
   exact bo ⟨rfl,mI,_,rfl⟩
  ·rw [decide_eq_true (show(0:Int)<((fault ks gf:Nat):Int) by omega)]
   rw [if_neg h0] at mI
   refine cL ⟨_,rfl,_,rfl,lk,y,ks,gf,rfl,Vx,hF,AI,hkn,?_⟩
   have e:judge ks r=fault ks gf:=by
    unfold judge
    rw [if_pos (by rw [mI];exact h0),mI]
   rw [← e]
   exact q2 _ (ai.refl _)
 rintro σ H' ⟨rfl,mI,o2,rfl⟩
 rw [acj (by omega)] at mI
 have e1:judge ks r=if r.take.any (qh ks)=true then 3 else if iu ks r then 4 else if jI r=true then 5 else 0:=by
  unfold judge
  rw [if_neg (by rw [mI];exact fun z=>z rfl)]
 have T6:=hT.same sA
 have QV:=sA _ _ ha
 have pa2:Paired (Fact K H') r.take av:=ax pa fun _ _ _=>Fact.sm sA
 refine⟨_,rfl,t,_,0,_,rfl,rfl,T6,rfl,a,rfl,⟨_,aL.of QV⟩,bP (K:=K) (a:=a) (xs:=av) (fun i σ ig=>ig=H'∧(r.take.take i).any (qh ks)=false∧∃o,σ=[some (.ref lk),some (.ref t),o,none,none,none,none]) ⟨rfl,by simp,_,rfl⟩ (fun i σ ig _ ⟨e,_⟩=>by rw [e];exact aL.of QV) ?_ ?_⟩
 ·rintro i y σ ig hi ⟨rfl,hl,o,rfl⟩
  obtain⟨sv,ey⟩:=aN hi
  have nq:i<r.take.length:=by omega
  have hF:=paired_at pa2 i nq sv
  rw [ey] at hF
  refine⟨_,rfl,_,rfl,lk,y,ks,r.take[i],rfl,Vx,Fb.nd,hF,GO _ (aas _ (aap nq)),hkn,_,rfl,?_⟩
  cases hk:decide (r.take[i].k∈fU ks) with
  | true =>
   refine cL ?_
   have e:judge ks r=3:=by
    rw [e1]
    exact if_pos (abA.mpr ⟨_,aap nq,hk⟩)
   have z:=q2 _ (ai.refl _)
   rw [e] at z
   exact z
  | false =>
   refine bo ⟨rfl,?_,_,rfl⟩
   rw [aak nq,ab8,hl,abU]
   show(false || (decide (r.take[i].k∈fU ks) || false))=false
   rw [hk]
   rfl
 rintro σ ig ⟨rfl,hl,o3,rfl⟩
 rw [← za,aa1] at hl
 rw [hl,if_neg (by decide)] at e1
 have UZ:=sA _ _ hg
 have pg2:Paired (Fact K ig) r.put gv:=ax pg fun _ _ _=>Fact.sm sA
 dsimp only
 refine dE (Good:=fun σ' HX=>HX=ig∧¬ iu ks r∧∃o,σ'=[some (.ref lk),some (.ref t),o,none,none,none,none]) (fun fin=>?_) (fun σ' HX Qw=>?_)
 ·refine⟨_,rfl,t,_,0,_,rfl,rfl,T6,rfl,a,_,rfl,.inl (aL.of QV),rfl,_,rfl,?_⟩
  by_cases h0:r.take=[]
  ·have e:av.length=0:=by rw [← za,h0];rfl
   rw [e,decide_eq_true (show V.int ((0:Nat):Int)=V.int 0 from rfl)]
   refine cL ?_
   refine⟨_,rfl,t,_,3,_,rfl,rfl,T6,rfl,g,rfl,⟨_,aL.of UZ⟩,bP (K:=K) (a:=g) (xs:=gv) (fun i σ HX=>HX=ig∧(r.put.take i).any (fun f=>!qh ks f)=false∧∃o,σ=[some (.ref lk),some (.ref t),o,none,none,none,none]) ⟨rfl,by simp,_,rfl⟩ (fun i σ HX _ ⟨e,_⟩=>by rw [e];exact aL.of UZ) ?_ ?_⟩
   ·rintro i y σ HX hi ⟨rfl,xM,o,rfl⟩
    obtain⟨sv,ey⟩:=aN hi
    have nq:i<r.put.length:=by omega
    have hF:=paired_at pg2 i nq sv
    rw [ey] at hF
    refine⟨_,rfl,_,rfl,lk,y,ks,r.put[i],rfl,Vx,Fb.nd,hF,GO _ (aah _ (aah _ (aap nq))),hkn,_,rfl,?_⟩
    cases hk:decide (r.put[i].k∈fU ks) with
    | false =>
     refine cL ?_
     have e:judge ks r=4:=by
      rw [e1]
      refine if_pos ⟨h0,abA.mpr ⟨_,aap nq,?_⟩⟩
      show(!decide (r.put[i].k∈fU ks))=true
      rw [hk]
      rfl
     have z:=q2 _ (ai.refl _)
     rw [e] at z
     exact z
    | true =>
     refine bo ⟨rfl,?_,_,rfl⟩
     rw [aak nq,ab8,xM,abU]
     show(false || ((!decide (r.put[i].k∈fU ks)) || false))=false
     rw [hk]
     rfl
   ·rintro σ HX ⟨rfl,xM,o,rfl⟩
    rw [← zg,aa1] at xM
    exact fin _ _ ⟨rfl,fun z=>(by rw [z.2] at xM;cases xM),_,rfl⟩
  ·have e:av.length≠0:=fun e=>h0 (aa2 (by omega))
   rw [decide_eq_false (fun z=>e (by have:=V.int.inj z;omega))]
   exact bo (fin _ _ ⟨rfl,fun z=>h0 z.1,_,rfl⟩)
 obtain⟨rfl,hcb,o4,rfl⟩:=Qw
 rw [if_neg hcb] at e1
 have Q5:=sA _ _ hb
 have pb2:Paired (Fact K HX) r.keep bv:=ax pb fun _ _ _=>Fact.sm sA
 have Vy:∀g∈r.take++(r.keep++r.put),g.as.length≤4∧∀a∈g.as,aD a=true:=fun g hg=>⟨(hW.f g hg).2.2,(hW.f g hg).2.1⟩
 refine⟨_,rfl,t,_,0,_,rfl,rfl,T6,rfl,_,rfl,t,_,1,_,rfl,rfl,T6,rfl,a,b,_,_,rfl,rfl,QV,Q5,(by rw [aax];omega),fun l3 Du=>?_⟩
 have s3:=aj Du (.lst (av++bv))
 have h3:=ae (H:=HX) (a:=l3) (o:=.lst (av++bv))
 have p3:Paired (Fact K (upd HX l3 (.lst (av++bv)))) (r.take++r.keep) (av++bv):=ax (a7 pa2 pb2) fun _ _ _=>Fact.sm s3
 generalize upd HX l3 (.lst (av++bv))=H3 at s3 h3 p3 ⊢
 refine⟨l3,r.take++r.keep,rfl,⟨_,h3,p3⟩,(by rw [aag];omega),(fun g hg=>Vy g (by rcases aaq.mp hg with z|z;exact aas _ z;exact aah _ (aas _ z))),fun lh H4 s4 hlh Yj=>?_⟩
 refine⟨(by show 0≤aaj;decide),fun ls HD=>?_⟩
 have s5:=aj HD (.lst [])
 have h5:=ae (H:=H4) (a:=ls) (o:=.lst [])
 generalize upd H4 ls (.lst [])=H5 at s5 h5 ⊢
 have Vo:=ai.trans s3 (ai.trans s4 s5)
 have sB:=ai.trans sA Vo
 have MW:=hT.same sB
 obtain⟨lv,MV,pl⟩:=hL.sm sB
 obtain⟨pv,hpv,pp⟩:=hP.sm sB
 have zl:=aao pl
 have zp:=aao pp
 refine⟨_,rfl,t,_,2,_,rfl,rfl,MW,rfl,_,rfl,t,_,4,_,rfl,rfl,MW,rfl,l,p,_,_,rfl,rfl,MV,hpv,(by rw [aax];omega),fun l6 Od=>?_⟩
 have s6:=aj Od (.lst (lv++pv))
 have h6:=ae (H:=H5) (a:=l6) (o:=.lst (lv++pv))
 have n56:ls≠l6:=fun e=>by rw [← e,h5] at Od;cases Od
 have h56:=s6 _ _ h5
 have pr:Paired (YU K (upd H5 l6 (.lst (lv++pv)))) (r.aO.map (fun k=>(k.l,k.r))++r.tell) (lv++pv):=by
  refine a7 ?_ ?_
  ·exact tG (ax pl fun k v _ ⟨t,e,z⟩=>⟨t,_,e,z.same s6,.inl ⟨_,rfl⟩⟩)
  ·exact ax pp fun k v _ ⟨t,e,z⟩=>⟨t,_,e,z.same s6,.inr rfl⟩
 generalize upd H5 l6 (.lst (lv++pv))=H6 at s6 h6 h56 pr ⊢
 have GC:=ai.trans s5 s6
 have s26:=ai.trans Vo s6
 have YW:=GC _ _ Yj
 have ae1:H4 ls=none:=HD
 have zr:=aao pr
 have zrr:(r.aO.map (fun k=>(k.l,k.r))++r.tell).length≤8:=by rw [aag,Lm9];omega
 have YX:∀x∈r.aO.map (fun k=>(k.l,k.r))++r.tell,aD x.1=true∧aD x.2=true:=fun x hx=>by
  rcases aaq.mp hx with z|z
  ·obtain⟨k,hk,rfl⟩:=aay.mp z
   exact hW.l k hk
  ·exact hW.p x z
 have Tp:(r.aO.map (fun k=>(k.l,k.r))++r.tell).flatMap (fun x=>[x.1,x.2])=(r.aO.flatMap fun k=>[k.l,k.r])++(r.tell.flatMap fun p=>[p.1,p.2]):=by
  rw [abq,List.flatMap_map]
 generalize r.aO.map (fun k=>(k.l,k.r))++r.tell=rn at pr zr zrr YX Tp
 have two:∀i,((rn.take i).flatMap fun x=>[x.1,x.2]).length≤2 * i:=fun i=>by
  have z:∀l:List (Cs × Cs),(l.flatMap fun x=>[x.1,x.2]).length=2 * l.length:=fun l=>by
   induction l with
   | nil=>rfl
   | cons a s ih=>rw [abY,aag,ih];simp;omega
  rw [z,aaA]
  omega
 refine⟨l6,rfl,⟨_,aL.of h6⟩,bP (K:=K) (a:=l6) (xs:=lv++pv) (fun i σ H'=>ai H6 H'∧∃(li:aaB) (o:Option V),H' li=some (.lst (((rn.take i).flatMap fun x=>[x.1,x.2]).map tx))∧σ=[some (.ref lk),some (.ref t),o4,some (.ref lh),some (.ref li),o,none]) ⟨ai.refl _,ls,none,h56,rfl⟩ (fun i σ H' _ ⟨sm,_⟩=>aL.of (sm _ _ h6)) ?_ ?_⟩
 ·rintro i y σ H' hi ⟨sm,li,o,Vz,rfl⟩
  obtain⟨sv,ey⟩:=aN hi
  have nq:i<rn.length:=by omega
  have hR:=paired_at pr i nq sv
  rw [ey] at hR
  obtain⟨tr,es,rfl,T8,hes⟩:=hR
  have T8:=T8.same sm
  have at0:lu es 0=some (tx rn[i].1):=by rcases hes with⟨m,rfl⟩|rfl <;> exact bz (j:=0) rfl
  have at1:lu es ((es.length:Int) - 1)=some (tx rn[i].2):=by
   rcases hes with⟨m,rfl⟩|rfl
   ·exact bz (j:=2) rfl
   ·exact bz (j:=1) rfl
  have zt:=two i
  refine⟨_,rfl,_,rfl,tr,_,0,_,rfl,rfl,T8,at0,_,rfl,_,rfl,tr,_,rfl,.inr T8,_,_,rfl,rfl,tr,_,_,_,rfl,rfl,T8,at1,(by show 2≤aaj;decide),fun l7 YY=>?_⟩
  have u1:=aj YY (.lst [tx rn[i].1,tx rn[i].2])
  have h7:=ae (H:=H') (a:=l7) (o:=.lst [tx rn[i].1,tx rn[i].2])
  have T9:=u1 _ _ Vz
  generalize upd H' l7 (.lst [tx rn[i].1,tx rn[i].2])=H7 at u1 h7 T9 ⊢
  refine⟨li,l7,_,_,rfl,rfl,T9,h7,(by rw [Lm9,aax];show _+2≤_;omega),fun l8 MQ=>?_⟩
  refine⟨ai.trans sm (ai.trans u1 (aj MQ _)),l8,_,?_,rfl⟩
  rw [ae,aak nq,abq,aat]
  rfl
 rintro σ H' ⟨s7,li,o,Vz,rfl⟩
 rw [← zr,aa1,Tp] at Vz
 have zt:=two rn.length
 rw [aa1,Tp] at zt
 have sC:=ai.trans sB (ai.trans s6 s7)
 have Vw:=hT.same sC
 refine⟨_,rfl,_,rfl,t,_,3,_,rfl,rfl,Vw,rfl,g,r.put,rfl,hG.sm sC,(by omega),(fun g hg=>Vy g (aah _ (aah _ hg))),fun lo H8 s8 hlo YZ=>?_⟩
 have UY:(opens r.put).length≤32:=vK (fun g hg=>(Vy g (aah _ (aah _ hg))).1) (by omega) (jm _)
 refine⟨li,lo,_,_,rfl,rfl,s8 _ _ Vz,YZ,(by rw [Lm9,Lm9,aax];omega),fun l9 HG=>?_⟩
 rw [← aat]
 have eS:(r.aO.flatMap fun k=>[k.l,k.r])++(r.tell.flatMap fun p=>[p.1,p.2])++opens r.put=cO r:=rfl
 rw [eS]
 have s9:=aj HG (.lst ((cO r).map tx))
 have h9:=ae (H:=H8) (a:=l9) (o:=.lst ((cO r).map tx))
 generalize upd H8 l9 (.lst ((cO r).map tx))=H9 at s9 h9 ⊢
 have s69:=ai.trans s7 (ai.trans s8 s9)
 have Y0:=s69 _ _ YW
 have sD:=ai.trans sC (ai.trans s8 s9)
 have qD:∀n,judge ks r=n→∀{H'},ai H9 H'→Q (.int n) H':=fun n e {H'} s=>by
  have z:=q H' (ai.trans sD s)
  rw [e] at z
  exact z
 have hsn:∀x∈cO r,aD x=true:=fun x hx=>by
  have hx:x∈((r.aO.flatMap fun k=>[k.l,k.r])++(r.tell.flatMap fun p=>[p.1,p.2]))++opens r.put:=hx
  rcases aaq.mp hx with z|z
  ·rw [← Tp] at z
   obtain⟨y,hy,z⟩:=adW.mp z
   rcases aaN.mp z with e|e
   ·rw [e];exact(YX y hy).1
   ·rw [aal.mp e];exact(YX y hy).2
  ·obtain⟨⟨f,hf,ha⟩,_⟩:=Dh (jm _) z
   exact(Vy f (aah _ (aah _ hf))).2 x ha
 have hba:jI r=(cO r).any fun a=>great a && !decide (a∈opens (r.take++r.keep)):=by
  unfold jI
  rw [Kr (jm _)]
 refine⟨l9,rfl,⟨_,aL.of h9⟩,bP (K:=K) (a:=l9) (xs:=(cO r).map tx) (fun i σ H'=>H'=H9∧((cO r).take i).any (fun a=>great a && !decide (a∈opens (r.take++r.keep)))=false∧∃o2,σ=[some (.ref lk),some (.ref t),o4,some (.ref lh),some (.ref li),o,o2]) ⟨rfl,by simp,_,rfl⟩ (fun i σ H' _ ⟨e,_⟩=>by rw [e];exact aL.of h9) ?_ ?_⟩
 ·rintro i y σ H' hi ⟨rfl,xM,o2,rfl⟩
  obtain⟨xi,ey⟩:=aN hi
  rw [Lm9] at xi
  rw [aaG] at ey
  subst ey
  have hmem:(cO r)[i]∈cO r:=aap xi
  have FL:=hsn _ hmem
  have hco:=lQ FL
  have next:(great (cO r)[i] && !decide ((cO r)[i]∈opens (r.take++r.keep)))=false→((cO r).take (i+1)).any (fun a=>great a && !decide (a∈opens (r.take++r.keep)))=false:=fun z=>by
   rw [aak xi,ab8,xM,abU,z]
   rfl
  have vh:1≤(S (cO r)[i]).length:=by
   rw [aS]
   exact(eO FL).1
  refine⟨_,rfl,S (cO r)[i],0,_,rfl,rfl,(by rw [aS];exact sz (by have:=hco.2.1;omega)),uD vh,rfl,_,rfl,rfl,_,rfl,?_⟩
  rw [bH,wq FL]
  by_cases Ua:great (cO r)[i]=true
  ·rw [Ua]
   refine cL ?_
   refine⟨_,rfl,_,rfl,lh,_,rfl,.inl (aL.of Y0),rfl,gJ _,_,rfl,?_⟩
   rw [if_pos rfl,jF]
   cases hk:decide ((cO r)[i]∈opens (r.take++r.keep)) with
   | true=>exact bo ⟨rfl,next (by rw [hk,Ua];rfl),_,rfl⟩
   | false =>
    refine cL (qD 5 ?_ (ai.refl _))
    rw [e1,hba]
    exact if_pos (abA.mpr ⟨_,hmem,by rw [hk,Ua];rfl⟩)
  ·rw [adX _ |>.mp Ua]
   exact bo (bo ⟨rfl,next (by rw [adX _ |>.mp Ua];rfl),_,rfl⟩)
 ·rintro σ H' ⟨rfl,xM,o2,rfl⟩
  rw [Lm9,aa1] at xM
  refine qD 0 ?_ (ai.refl _)
  rw [e1,hba,xM]
  rfl
end
end ft
namespace ft
open PySem L2 cR Bk
set_option maxHeartbeats 4000000
section
variable {P:aaS} {w:abg} {K:aae} {mg:Str→Option aai} {base:Heap} {f:aaB} {fd:aa9} {c:Cl} {CP:aaB} {Cs:Nat→aaB}
theorem dg:aC ["_law_text","_law_found","_law_flags","e"] ["_law_text"] (au j0):=⟨rfl,rfl,rfl,by decide +kernel,rfl,by decide +kernel,by decide +kernel⟩
theorem x5 (F:dn K "_law_asked" "_law_asked" j0 f fd) (mR:Ac P w K mg base "read_book" 9 ["text"] (Gw K c Cs)) (d6:mg "isinstance"=none) (A4:mg "ValueError"=none) (DD:mg "PoolError"=some (.ref CP)) (vZ:mg "NoKind"=some (.ref (Cs 1))) (sy:mg "BadArgs"=some (.ref (Cs 2))) (sL:mg "BadTake"=some (.ref (Cs 3))) (sP:mg "BadCall"=some (.ref (Cs 4))) (wc:mg "NoName"=some (.ref (Cs 5)))
  (xP:∀n,1≤n→n≤5→ab4 K (.ref (Cs n)) (.ref CP)=some true) (Z:∀n,1≤n→n≤5→PySem.W.ExcKit K (Cs n)) (kI:∀n m,1≤n→n≤5→1≤m→m≤5→abM K (.ref (Cs n)) (.ref (Cs m))=some (n == m)) (kV:∀n,1≤n→n≤5→abM K (.ref (Cs n)) (.type "ValueError")=some true) :
  a4 P w K mg base dJ 10 f fd ["_law_text"] (zm K c):=by
 refine F.ok dg (fun vs H Q E h=>?_) (fun cJ A outer s H vs Q E hr h=>?_)
 ·obtain⟨ls,its,rfl,_⟩:=h
  rfl
 obtain⟨ls,its,rfl,h0,MD,hlen,hB,LP,q⟩:=h
 have h5:=zd (fo (its.map (·.2))) (eT (its.map (·.2)))
 refine⟨_,(@ah _ _ _ _ _ (@ay _ _ (1) _ _ _ _ dg.nd rfl (aaM rfl) (@OE _ _ _) (by rfl) (by first|exact .inl rfl|exact .inr rfl|assumption)) (@ah _ _ _ _ _ (@ay _ _ (2) _ _ _ _ dg.nd rfl (aaM rfl) (@aV _ _ _ _ (@ag _)) (by rfl) (by first|exact .inl rfl|exact .inr rfl|assumption)) (@ah _ _ _ _ _ (@Pb _ _ _ _ _ _ _ (fun pn R=>(@ak _ _ _ (@ay _ _ (1) _ _ _ _ dg.nd rfl (aaM rfl) (@J2 _ _ _ _ _ _ _ _ _ _ _ _ mR (hr.mono (by decide)) rfl (@aa _ _ _ _ _ (pv 0) (@ag _) (by rfl)) (by decide) (by rfl) (by rfl)) (by rfl) (by first|exact .inl rfl|exact .inr rfl|assumption)))) (@Su _ _ _ _ (3) _ _ _ _ _ _ _ dg.nd rfl rfl rfl DD (fun a oe cls hc hnc=>(@ah _ _ _ _ _ (@ay _ _ (2) _ _ _ _ dg.nd rfl (aaM rfl) (@aV _ _ _ _ (@aa _ _ _ _ _ (@aK _ _ _ _ _ _ _ _ _ (id (α:=d8 _ _ (ES K a cls)) (ji (oe:=oe) (aah _ (aal.mpr rfl)) hc hnc)) rfl d6 abu (@aa _ _ _ _ _ (pv 3) (@aa _ _ _ _ _ (@cU _ _ (.ref _) _ _ rfl vZ rfl (by decide)) (@ag _) (by rfl)) (by rfl)) (by decide) (by decide) (by rfl) (by rfl)) (@aa _ _ _ _ _ (@aK _ _ _ _ _ _ _ _ _ (id (α:=d8 _ _ (ES K a cls)) (ji (oe:=oe) (aah _ (aal.mpr rfl)) hc hnc)) rfl d6 abu (@aa _ _ _ _ _ (pv 3) (@aa _ _ _ _ _ (@cU _ _ (.ref _) _ _ rfl sy rfl (by decide)) (@ag _) (by rfl)) (by rfl)) (by decide) (by decide) (by rfl) (by rfl)) (@aa _ _ _ _ _ (@aK _ _ _ _ _ _ _ _ _ (id (α:=d8 _ _ (ES K a cls)) (ji (oe:=oe) (aah _ (aal.mpr rfl)) hc hnc)) rfl d6 abu (@aa _ _ _ _ _ (pv 3) (@aa _ _ _ _ _ (@cU _ _ (.ref _) _ _ rfl sL rfl (by decide)) (@ag _) (by rfl)) (by rfl)) (by decide) (by decide) (by rfl) (by rfl)) (@aa _ _ _ _ _ (@aK _ _ _ _ _ _ _ _ _ (id (α:=d8 _ _ (ES K a cls)) (ji (oe:=oe) (aah _ (aal.mpr rfl)) hc hnc)) rfl d6 abu (@aa _ _ _ _ _ (pv 3) (@aa _ _ _ _ _ (@cU _ _ (.ref _) _ _ rfl sP rfl (by decide)) (@ag _) (by rfl)) (by rfl)) (by decide) (by decide) (by rfl) (by rfl)) (@ag _) (by rfl)) (by rfl)) (by rfl)) (by rfl))) (by rfl) (by first|exact .inl rfl|exact .inr rfl|assumption)) (@ak _ _ _ (@ay _ _ (2) _ _ _ _ dg.nd rfl (aaM rfl) (@aw _ _ _ _ _ _ _ _ (@cF _) (pv 2) (@aV _ _ _ _ (@aa _ _ _ _ _ (@aK _ _ _ _ _ _ _ _ _ (id (α:=d8 _ _ (ES K a cls)) (ji (oe:=oe) (aah _ (aal.mpr rfl)) hc hnc)) rfl d6 abu (@aa _ _ _ _ _ (pv 3) (@aa _ _ _ _ _ (@cU _ _ (.ref _) _ _ rfl wc rfl (by decide)) (@ag _) (by rfl)) (by rfl)) (by decide) (by decide) (by rfl) (by rfl)) (@aa _ _ _ _ _ (@aK _ _ _ _ _ _ _ _ _ (id (α:=d8 _ _ (ES K a cls)) (ji (oe:=oe) (aah _ (aal.mpr rfl)) hc hnc)) rfl d6 abu (@aa _ _ _ _ _ (pv 3) (@aa _ _ _ _ _ (@LF _ _ (.ty "ValueError") _ _ rfl A4 PyProof.Rows.Boot.«ValueError» rfl (by decide) (by decide)) (@ag _) (by rfl)) (by rfl)) (by decide) (by decide) (by rfl) (by rfl)) (@ag _) (by rfl)) (by rfl)))) (by rfl) (by first|exact .inl rfl|exact .inr rfl|assumption))))) (@Pa _) (by decide)) (by rfl) (by rfl) (by rfl) (by intro y;rfl)) (@ak _ _ _ (@aG _ _ _ _ (@bD _ _ _ _ _ (@aa _ _ _ _ _ (pv 1) (@aa _ _ _ _ _ (pv 2) (@ag _) (by rfl)) (by rfl)))))))),?_⟩
 refine⟨(by show 0≤aaj;decide),fun l0 Hs=>?_⟩
 have s0:=aj Hs (.lst [])
 have Ub:=ae (H:=H) (a:=l0) (o:=.lst [])
 generalize upd H l0 (.lst [])=H0 at s0 Ub ⊢
 refine⟨_,rfl,ls,its,rfl,h0,MD,hlen,hB,LP,fun hn H2 s2=>?_,fun hn v H2 s2 Y1=>?_⟩
 ·have g1:1≤ba (fo (its.map (·.2))) (eT (its.map (·.2))):=by omega
  generalize ba (fo (its.map (·.2))) (eT (its.map (·.2)))=n at h5 g1 hn q ⊢
  refine⟨true,xP n g1 h5,fun _ e=>?_,fun z=>by cases z⟩
  refine⟨_,rfl,_,.ref (Cs 1),Cs n,_,rfl,.inl ⟨Cs 1,rfl,rfl⟩,rfl,Z n g1 h5,kI n 1 g1 h5 (by decide) (by decide),?_⟩
  refine⟨_,rfl,_,.ref (Cs 2),Cs n,_,rfl,.inl ⟨Cs 2,rfl,rfl⟩,rfl,Z n g1 h5,kI n 2 g1 h5 (by decide) (by decide),?_⟩
  refine⟨_,rfl,_,.ref (Cs 3),Cs n,_,rfl,.inl ⟨Cs 3,rfl,rfl⟩,rfl,Z n g1 h5,kI n 3 g1 h5 (by decide) (by decide),?_⟩
  refine⟨_,rfl,_,.ref (Cs 4),Cs n,_,rfl,.inl ⟨Cs 4,rfl,rfl⟩,rfl,Z n g1 h5,kI n 4 g1 h5 (by decide) (by decide),?_⟩
  refine⟨(by show 4≤aaj;decide),fun l2 i8=>?_⟩
  have s3:=aj i8 (.lst [.bl (n == 1),.bl (n == 2),.bl (n == 3),.bl (n == 4)])
  refine⟨_,rfl,_,rfl,_,.ref (Cs 5),Cs n,_,rfl,.inl ⟨Cs 5,rfl,rfl⟩,rfl,Z n g1 h5,kI n 5 g1 h5 (by decide) (by decide),?_⟩
  refine⟨_,rfl,_,.type "ValueError",Cs n,true,rfl,.inr ⟨_,rfl,rfl⟩,rfl,Z n g1 h5,kV n g1 h5,?_⟩
  refine⟨(by show 2≤aaj;decide),fun l3 Du=>?_⟩
  have s4:=aj Du (.lst [.bl (n == 5),.bl true])
  refine⟨l2,l3,_,_,rfl,rfl,s4 _ _ ae,ae,(by show 6≤aaj;decide),fun l4 S2=>?_⟩
  have s5:=aj S2 (.lst [.bl (n == 1),.bl (n == 2),.bl (n == 3),.bl (n == 4),.bl (n == 5),.bl true])
  refine⟨_,rfl,_,rfl,(by show 2≤aaj;decide),fun t ht=>?_⟩
  have s6:=aj ht (.tup [V.cB,V.ref l4])
  exact q t l4 .cB _ (ai.trans s0 (ai.trans s2 (ai.trans s3 (ai.trans s4 (ai.trans s5 s6))))) ae (fun _=>s6 _ _ ae) (fun z=>absurd z hn)
 ·refine⟨_,rfl,_,rfl,(by show 2≤aaj;decide),fun t ht=>?_⟩
  have s6:=aj ht (.tup [v,V.ref l0])
  exact q t l0 v _ (ai.trans s0 (ai.trans s2 s6)) ae (fun z=>absurd hn z) (fun _=>⟨s6 _ _ (s2 _ _ Ub),_,Y1.keep (Kp.same s6)⟩)
end
end ft
namespace ft
open PySem L2 cR Bk
set_option maxHeartbeats 4000000
section
variable {P:aaS} {w:abg} {K:aae} {mg:Str→Option aai} {base:Heap} {f:aaB} {fd:aa9} {c:Cl}
theorem bU:aC ["_law_script","_law_kinds_here","_law_opens_here","_law_words_here","_law_strangers","_law_way","_law_rows","_law_k","_law_cells","_law_rule_here","_law_number","_law_fault_here"] ["_law_script","_law_kinds_here","_law_opens_here","_law_words_here","_law_strangers"] (au j4):=⟨rfl,rfl,rfl,by decide +kernel,rfl,by decide +kernel,by decide +kernel⟩
theorem x6 (F:dn K "_law_rules" "_law_rules" j4 f fd) (b6:dz P w K mg base "_law_cell_at" 1 ["_law_script","_law_k"] (EK K)) (a8:dz P w K mg base "_law_mix" 1 ["_law_cell","_law_k"] tD) (mS:dz P w K mg base "_law_rule" 4 ["_law_kinds_here","_law_opens_here","_law_words_here","_law_cells","_law_menu"] (Gu K)) (gY:dz P w K mg base "_law_spoiled" 3 ["_law_rule_here","_law_kinds_here","_law_strangers","_law_number","_law_fault_here"] (vM K)) (aY:mg "len"=none) (bY:mg "range"=none) :
  a4 P w K mg base dJ 5 f fd ["_law_script","_law_kinds_here","_law_opens_here","_law_words_here","_law_strangers"] (zo K):=by
 refine F.ok bU (fun vs H Q E h=>?_) (fun cJ A outer s H vs Q E hr h=>?_)
 ·obtain⟨a,lk,lo,lw,ls,ns,ks,os,ws,s0,s1,rfl,_⟩:=h
  rfl
 obtain⟨a,lk,lo,lw,ls,ns,ks,os,ws,s0,s1,rfl,hS,hn,Oi,hG,yJ,hlo,Q8,ho,hw,hN,HD,YT,Qi,q⟩:=h
 refine⟨_,(@ah _ _ _ _ _ (@ay _ _ (5) _ _ _ _ bU.nd rfl (aaM rfl) (@aw _ _ _ _ _ _ _ _ (@bt _) (@ao _ _ _ _ _ _ _ _ _ _ b6 (hr.mono (by decide)) rfl (@aa _ _ _ _ _ (pv 0) (@aa _ _ _ _ _ (@af _ _ _ _) (@ag _) (by rfl)) (by rfl)) (by decide) (by rfl) (by rfl)) (@af _ _ _ _)) (by rfl) (by first|exact .inl rfl|exact .inr rfl|assumption)) (@ah _ _ _ _ _ (@ay _ _ (6) _ _ _ _ bU.nd rfl (aaM rfl) (@aV _ _ _ _ (@ag _)) (by rfl) (by first|exact .inl rfl|exact .inr rfl|assumption)) (@ah _ _ _ _ _ (@b8 _ _ _ _ _ _ _ _ aa0 rfl (@cC _ _ _ _ _ _ rfl bY (@aa _ _ _ _ _ (@af _ _ _ _) (@ag _) (by rfl)) (by rfl)) (@bw _ _ (7) _ bU.nd rfl (aaM rfl) (by first|exact .inl rfl|exact .inr rfl|assumption)) (@ah _ _ _ _ _ (@ay _ _ (8) _ _ _ _ bU.nd rfl (aaM rfl) (@cy _ _ _ _ _ _ _ _ _ _ (@fI _) (pv 0) (@cv _ _ _ (@aw _ _ _ _ _ _ _ _ (@cE _) (@af _ _ _ _) (@aw _ _ _ _ _ _ _ _ (@jx _) (@af _ _ _ _) (pv 7)))) (@cv _ _ _ (@aw _ _ _ _ _ _ _ _ (@cE _) (@af _ _ _ _) (@aw _ _ _ _ _ _ _ _ (@jx _) (@af _ _ _ _) (pv 7))))) (by rfl) (by first|exact .inl rfl|exact .inr rfl|assumption)) (@ak _ _ _ (@aX _ _ _ _ _ _ _ _ (@aE _ _ _ _ _ _ _ _ (@lD _) (@aK _ _ _ _ _ _ _ _ _ (@aB _) rfl aY aaF (@aa _ _ _ _ _ (pv 8) (@ag _) (by rfl)) (by decide) (by decide) (by rfl) (by rfl)) (@af _ _ _ _) (aM _)) (@ah _ _ _ _ _ (@ay _ _ (9) _ _ _ _ bU.nd rfl (aaM rfl) (@ao _ _ _ _ _ _ _ _ _ _ mS (hr.mono (by decide)) rfl (@aa _ _ _ _ _ (pv 1) (@aa _ _ _ _ _ (pv 2) (@aa _ _ _ _ _ (pv 3) (@aa _ _ _ _ _ (pv 8) (@aa _ _ _ _ _ (@aV _ _ _ _ (@aa _ _ _ _ _ (@af _ _ _ _) (@aa _ _ _ _ _ (@af _ _ _ _) (@aa _ _ _ _ _ (@af _ _ _ _) (@aa _ _ _ _ _ (@af _ _ _ _) (@aa _ _ _ _ _ (@af _ _ _ _) (@aa _ _ _ _ _ (@af _ _ _ _) (@aa _ _ _ _ _ (@af _ _ _ _) (@ag _) (by rfl)) (by rfl)) (by rfl)) (by rfl)) (by rfl)) (by rfl)) (by rfl))) (@ag _) (by rfl)) (by rfl)) (by rfl)) (by rfl)) (by rfl)) (by decide) (by rfl) (by rfl)) (by rfl) (by first|exact .inl rfl|exact .inr rfl|assumption)) (@ah _ _ _ _ _ (@ay _ _ (10) _ _ _ _ bU.nd rfl (aaM rfl) (@ao _ _ _ _ _ _ _ _ _ _ a8 (hr.mono (by decide)) rfl (@aa _ _ _ _ _ (@aq _ _ _ _ _ _ _ (@aJ _) (pv 8) (@af _ _ _ _) (fun _ _=>rfl)) (@aa _ _ _ _ _ (@af _ _ _ _) (@ag _) (by rfl)) (by rfl)) (by decide) (by rfl) (by rfl)) (by rfl) (by first|exact .inl rfl|exact .inr rfl|assumption)) (@ah _ _ _ _ _ (@aX _ _ _ _ _ _ _ _ (PW.pt (lB (aE lD (pv 5) af (aM _)) (hV (aE ib (aw bt (pv 10) af) af (aM _))))) (@ah _ _ _ _ _ (@ay _ _ (11) _ _ _ _ bU.nd rfl (aaM rfl) (pv 5) (by rfl) (by first|exact .inl rfl|exact .inr rfl|assumption)) (@ah _ _ _ _ _ (@aX _ _ _ _ _ _ _ _ (@aE _ _ _ _ _ _ _ _ (@cg _) (pv 5) (@af _ _ _ _) (aM _)) (@ak _ _ _ (@ay _ _ (11) _ _ _ _ bU.nd rfl (aaM rfl) (@aw _ _ _ _ _ _ _ _ (@cE _) (@af _ _ _ _) (@aw _ _ _ _ _ _ _ _ (@bt _) (@aw _ _ _ _ _ _ _ _ (@cK _) (pv 10) (@af _ _ _ _)) (@af _ _ _ _))) (by rfl) (by first|exact .inl rfl|exact .inr rfl|assumption))) (@aI _)) (@ak _ _ _ (@ay _ _ (9) _ _ _ _ bU.nd rfl (aaM rfl) (@ao _ _ _ _ _ _ _ _ _ _ gY (hr.mono (by decide)) rfl (@aa _ _ _ _ _ (pv 9) (@aa _ _ _ _ _ (pv 1) (@aa _ _ _ _ _ (pv 4) (@aa _ _ _ _ _ (@aw _ _ _ _ _ _ _ _ (@cK _) (pv 10) (@af _ _ _ _)) (@aa _ _ _ _ _ (pv 11) (@ag _) (by rfl)) (by rfl)) (by rfl)) (by rfl)) (by rfl)) (by decide) (by rfl) (by rfl)) (by rfl) (by first|exact .inl rfl|exact .inr rfl|assumption))))) (@aI _)) (@ak _ _ _ (@bh _ _ _ _ (@bx _ _ _ _ _ _ _ _ _ _ _ _ aaD aaI aaL (@bg _) (pv 6) (@aa _ _ _ _ _ (pv 9) (@ag _) (by rfl)) (by rfl) (by rfl) (by rfl) (by rfl) (by rfl)) (by rfl)))))) (@aI _)))) (by intro _;rfl)) (@ak _ _ _ (@aG _ _ _ _ (pv 6)))))),?_⟩
 refine⟨_,rfl,a,ns,3,rfl,hS,by decide,fun v3=>?_⟩
 refine⟨_,_,rfl,rfl,(by show(0:Int)<7;decide),?_⟩
 refine bW ?_
 dsimp only
 generalize v3 % 7=way
 refine⟨(by show 0≤aaj;decide),fun lr rJ=>?_⟩
 have t1:=aj rJ (.lst [])
 have e1:=ae (H:=H) (a:=lr) (o:=.lst [])
 generalize upd H lr (.lst [])=H1 at t1 e1 ⊢
 refine⟨6,rfl,by decide,by decide,?_⟩
 refine gB (lo:=0) (n:=6) (fun i σ H'=>ai H H'∧∃(rs:List Rl) (vs:List V) (o7 o8 o9 Qx MX:Option V),H' lr=some (.lst vs)∧Paired (fun r v=>∀ys,U5 K (upd H' lr (.lst ys)) r v) rs vs∧(∀r∈rs,Dl 3 4 r)∧rs.length≤i∧σ=[some (.ref a),some (.ref lk),some (.ref lo),some (.ref lw),some (.ref ls),some (.int way),some (.ref lr),o7,o8,o9,Qx,MX]) ⟨t1,[],[],none,none,none,none,none,e1,.nil,(fun r hr=>nomatch hr),aaz _,rfl⟩ ?_ ?_
 ·rintro i σ H' hi ⟨sm,rs,vs,o7,o8,o9,Qx,MX,hL,hp,Lx,hri,rfl⟩
  refine⟨_,rfl,_,rfl,_,_,rfl,rfl,.inl ⟨by decide,by decide⟩,_,_,rfl,rfl,_,rfl,_,rfl,_,_,rfl,rfl,.inl ⟨by decide,by decide⟩,_,_,rfl,rfl,_,rfl,a,_,rfl,sm.seq hS,fun lc Q9=>?_⟩
  obtain⟨cs,ecs,Ra⟩:=JU ns (some (5+8 * (0+(i:Int)))) (some (13+8 * (0+(i:Int))))
  rw [ecs]
  have t3:=aj Q9 (.lst (cs.map V.int))
  have hC:=ae (H:=H') (a:=lc) (o:=.lst (cs.map V.int))
  have Ir:=t3 _ _ hL
  generalize upd H' lc (.lst (cs.map V.int))=H3 at t3 hC Ir ⊢
  have sB:=ai.trans sm t3
  have T2:Paired (fun r v=>∀ys,U5 K (upd H3 lr (.lst ys)) r v) rs vs:=ax hp fun r v _ z ys=>by
   obtain⟨t,e,h⟩:=z ys
   exact⟨t,e,h.sm (Dn t3)⟩
  refine⟨_,rfl,lc,_,rfl,.inl (aL.of hC),_,_,rfl,rfl,_,rfl,?_⟩
  rw [Lm9]
  by_cases hc:1<cs.length
  ·rw [decide_eq_true (show(1:Int)<(cs.length:Int) by omega)]
   refine cL ?_
   refine⟨_,rfl,_,rfl,_,rfl,_,rfl,(by show 7≤aaj;decide),fun lm Yc=>?_⟩
   have t4:=aj Yc (.lst [V.int 0,.int 1,.int 2,.int 1,.int 2,.int 0,.int 1])
   have Uc:=ae (H:=H3) (a:=lm) (o:=.lst [V.int 0,.int 1,.int 2,.int 1,.int 2,.int 0,.int 1])
   generalize upd H3 lm (.lst [V.int 0,.int 1,.int 2,.int 1,.int 2,.int 0,.int 1])=H4 at t4 Uc ⊢
   have sC:=ai.trans sB t4
   have Eg:=t4 _ _ Ir
   refine⟨lk,lo,lw,lc,lm,ks,os,ws,cs,[0,1,2,1,2,0,1],2,rfl,Oi.sm sC,hG,sC _ _ hlo,sC _ _ Q8,(by omega),(by omega),(by omega),hN,t4 _ _ hC,hc,(by omega),aL.of Uc,by decide,by decide,by decide,by decide,by decide,fun td r H5 s5 hR hD hF=>?_⟩
   have hkn:=jm (r.take++r.keep)
   have hW:=hD.rlW hG yJ hN hkn hF
   have hc0:lu (cs.map V.int) 0=some (V.int (cs[0]'(by omega))):=bz (j:=0) (by rw [aa6,Ge9];rfl)
   have Yg:=s5 _ _ (t4 _ _ hC)
   refine⟨_,rfl,lc,_,0,_,rfl,rfl,aL.of Yg,hc0,cs[0]'(by omega),6,rfl,by decide,by decide,fun num H6 s6 ae9=>?_⟩
   have GC:=ai.trans s5 s6
   have Y2:lV K H4 H6 td r:=by
    obtain⟨a,b,l,g,p,h0,hn,h1,h2,h3,h4,h5⟩:=hR
    exact⟨a,b,l,g,p,h0.same s6,hn,h1.sm s6,h2.sm s6,h3.sm s6,h4.sm s6,h5.sm s6⟩
   have sD:=ai.trans sC GC
   refine bW ?_
   dsimp only
   refine dE (Good:=fun σ' HX=>ai H4 HX∧∃(tx':aaB) (r':Rl) (MX:Option V),lV K H4 HX tx' r'∧Dl 3 4 r'∧σ'=[some (.ref a),some (.ref lk),some (.ref lo),some (.ref lw),some (.ref ls),some (.int way),some (.ref lr),some (.int (0+(i:Int))),some (.ref lc),some (.ref tx'),some (.int num),MX]) (fun fin=>?_) (fun σ' HX hg=>?_)
   ·refine⟨_,rfl,_,_,rfl,rfl,_,rfl,?_⟩
    refine eV (fun _=>?_) (fun _=>bo (fin _ _ ⟨GC,td,r,_,Y2,hW.mono (by decide) (by decide),rfl⟩))
    refine⟨_,rfl,_,_,rfl,rfl,(by show(0:Int)<3;decide),rfl,_,rfl,?_⟩
    refine eV (fun _=>?_) (fun _=>fin _ _ ⟨GC,td,r,_,Y2,hW.mono (by decide) (by decide),rfl⟩)
    refine⟨_,rfl,?_⟩
    refine bW ?_
    dsimp only
    refine dE (Good:=fun σ' HX=>HX=H6∧∃fa:Int,σ'=[some (.ref a),some (.ref lk),some (.ref lo),some (.ref lw),some (.ref ls),some (.int way),some (.ref lr),some (.int (0+(i:Int))),some (.ref lc),some (.ref td),some (.int num),some (.int fa)]) (fun fin2=>?_) (fun σ' HX hg=>?_)
    ·refine⟨_,rfl,rfl,_,rfl,?_⟩
     refine eV (fun _=>?_) (fun _=>fin2 _ _ ⟨rfl,_,rfl⟩)
     exact⟨_,rfl,_,_,rfl,rfl,⟨by decide,by decide⟩,_,_,rfl,rfl,(by show(0:Int)<5;decide),_,_,rfl,rfl,fin2 _ _ ⟨rfl,_,rfl⟩⟩
    obtain⟨rfl,fa,rfl⟩:=hg
    refine⟨_,rfl,_,rfl,_,rfl,_,rfl,_,_,rfl,rfl,⟨by decide,by decide⟩,_,rfl,H4,td,lk,ls,r,ks,s0,s1,_,fa,rfl,GC,Y2,hW,Oi.sm sD,hG,yJ,sD _ _ HD,YT,Qi,fun t' r' H7 s7 hR7 hW7=>?_⟩
    exact fin _ _ ⟨ai.trans GC s7,t',r',_,hR7,hW7,rfl⟩
   obtain⟨s4X,tn,r',afc,hRX,hWX,rfl⟩:=hg
   have Y3:=s4X _ _ Eg
   have s3X:=ai.trans t4 s4X
   refine⟨_,rfl,.inl ⟨rfl,_,aL.of Y3⟩,_,rfl,lr,_,_,rfl,rfl,Y3,(by have:=aao hp;rw [aax];omega),?_⟩
   refine⟨ai.aR (ai.trans sB s3X) rJ _,rs++[r'],vs++[.ref tn],_,_,_,_,_,ae,?_,fun y hy=>?_,by rw [aag];show rs.length+1≤i+1;omega,rfl⟩
   ·refine a7 (ax T2 fun r v _ z ys=>?_) (.cons (fun ys=>⟨tn,rfl,?_⟩) .nil)
    ·rw [Fv]
     obtain⟨t,e,h⟩:=z ys
     exact⟨t,e,h.sm (Dn s3X)⟩
    ·rw [Fv]
     exact hRX.upd Eg Y3
   ·rcases aaq.mp hy with z|z
    ·exact Lx y z
    ·rw [aal.mp z]
     exact hWX
  ·rw [decide_eq_false (show ¬ (1:Int)<(cs.length:Int) by omega)]
   exact bo ⟨sB,rs,vs,_,_,_,_,_,Ir,T2,Lx,by omega,rfl⟩
 ·rintro σ H' ⟨sm,rs,vs,o7,o8,o9,Qx,MX,hL,hp,Lx,hri,rfl⟩
  refine⟨_,rfl,q lr rs vs H' sm hL (ax hp fun r v _ z=>?_) Lx hri⟩
  have y:=z vs
  rw [PJ hL] at y
  exact y
end
end ft
namespace ft
open PySem L2 cR Bk
set_option maxHeartbeats 4000000
section
variable {P:aaS} {w:abg} {K:aae} {mg:Str→Option aai} {base:Heap} {f:aaB} {fd:aa9} {c:Cl}
theorem eM:aC ["_law_script","_law_head","_law_kinds_here","_law_opens_here","_law_words_here","_law_rules_here","_law_titles_here","_law_lines","_law_good","_law_due","_law_k","_law_fault_here","_law_asked_here"] ["_law_script"] (au qm):=⟨rfl,rfl,rfl,by decide +kernel,rfl,by decide +kernel,by decide +kernel⟩
theorem Qy (F:dn K "law" "law" qm f fd) (b6:dz P w K mg base "_law_cell_at" 1 ["_law_script","_law_k"] (EK K)) (kh:dz P w K mg base "_law_kinds" 4 ["_law_cell","_law_sizes"] (C9 K)) (df:dz P w K mg base "_law_titles" 3 ["_law_cell","_law_many"] (oF ef.cps.toList)) (ki:dz P w K mg base "_law_opens" 3 ["_law_cell","_law_many"] (oF eX.cps.toList)) (kj:dz P w K mg base "_law_words" 3 ["_law_cell","_law_many"] (oF Sl.cps.toList))
  (km:dz P w K mg base "_law_rules" 5 ["_law_script","_law_kinds_here","_law_opens_here","_law_words_here","_law_strangers"] (zo K)) (fG:dz P w K mg base "_law_kind_text" 1 ["_law_kind"] (uK K)) (fH:dz P w K mg base "_law_rule_text" 2 ["_law_title","_law_rule_here"] (Dg K)) (iU:dz P w K mg base "_law_judged" 2 ["_law_kinds_here","_law_rule_here"] (Dm K)) (gA:dz P w K mg base "_law_asked" 10 ["_law_text"] (zm K c))
  (mT:dz P w K mg base "book_text" 4 ["book"] (C8 K c)) (vW:mg "list"=none) (aY:mg "len"=none) (bY:mg "range"=none):a4 P w K mg base dJ 11 f fd ["_law_script"] (Gg K):=by
 refine F.ok eM (fun vs H Q E h=>?_) (fun cJ A outer s H vs Q E hr h=>?_)
 ·obtain⟨a,ns,rfl,_⟩:=h
  rfl
 obtain⟨a,ns,rfl,hS,hn,q⟩:=h
 refine⟨_,(@ah _ _ _ _ _ (@ay _ _ (1) _ _ _ _ eM.nd rfl (aaM rfl) (@ao _ _ _ _ _ _ _ _ _ _ b6 (hr.mono (by decide)) rfl (@aa _ _ _ _ _ (pv 0) (@aa _ _ _ _ _ (@af _ _ _ _) (@ag _) (by rfl)) (by rfl)) (by decide) (by rfl) (by rfl)) (by rfl) (by first|exact .inl rfl|exact .inr rfl|assumption)) (@ah _ _ _ _ _ (@ay _ _ (2) _ _ _ _ eM.nd rfl (aaM rfl) (@ao _ _ _ _ _ _ _ _ _ _ kh (hr.mono (by decide)) rfl (@aa _ _ _ _ _ (pv 1) (@aa _ _ _ _ _ (@aV _ _ _ _ (@aa _ _ _ _ _ (@af _ _ _ _) (@aa _ _ _ _ _ (@af _ _ _ _) (@aa _ _ _ _ _ (@af _ _ _ _) (@aa _ _ _ _ _ (@af _ _ _ _) (@aa _ _ _ _ _ (@af _ _ _ _) (@ag _) (by rfl)) (by rfl)) (by rfl)) (by rfl)) (by rfl))) (@ag _) (by rfl)) (by rfl)) (by decide) (by rfl) (by rfl)) (by rfl) (by first|exact .inl rfl|exact .inr rfl|assumption)) (@ah _ _ _ _ _ (@ay _ _ (3) _ _ _ _ eM.nd rfl (aaM rfl) (@ao _ _ _ _ _ _ _ _ _ _ ki (hr.mono (by decide)) rfl (@aa _ _ _ _ _ (@ao _ _ _ _ _ _ _ _ _ _ b6 (hr.mono (by decide)) rfl (@aa _ _ _ _ _ (pv 0) (@aa _ _ _ _ _ (@af _ _ _ _) (@ag _) (by rfl)) (by rfl)) (by decide) (by rfl) (by rfl)) (@aa _ _ _ _ _ (@af _ _ _ _) (@ag _) (by rfl)) (by rfl)) (by decide) (by rfl) (by rfl)) (by rfl) (by first|exact .inl rfl|exact .inr rfl|assumption)) (@ah _ _ _ _ _ (@ay _ _ (4) _ _ _ _ eM.nd rfl (aaM rfl) (@ao _ _ _ _ _ _ _ _ _ _ kj (hr.mono (by decide)) rfl (@aa _ _ _ _ _ (@ao _ _ _ _ _ _ _ _ _ _ b6 (hr.mono (by decide)) rfl (@aa _ _ _ _ _ (pv 0) (@aa _ _ _ _ _ (@af _ _ _ _) (@ag _) (by rfl)) (by rfl)) (by decide) (by rfl) (by rfl)) (@aa _ _ _ _ _ (@af _ _ _ _) (@ag _) (by rfl)) (by rfl)) (by decide) (by rfl) (by rfl)) (by rfl) (by first|exact .inl rfl|exact .inr rfl|assumption)) (@ah _ _ _ _ _ (@ay _ _ (5) _ _ _ _ eM.nd rfl (aaM rfl) (@ao _ _ _ _ _ _ _ _ _ _ km (hr.mono (by decide)) rfl (@aa _ _ _ _ _ (pv 0) (@aa _ _ _ _ _ (pv 2) (@aa _ _ _ _ _ (@cy _ _ _ _ _ _ _ _ _ _ (@fI _) (pv 3) (@d4 _) (@cv _ _ _ (@af _ _ _ _))) (@aa _ _ _ _ _ (pv 4) (@aa _ _ _ _ _ (@aV _ _ _ _ (@aa _ _ _ _ _ (@aq _ _ _ _ _ _ _ (@aJ _) (@ao _ _ _ _ _ _ _ _ _ _ df (hr.mono (by decide)) rfl (@aa _ _ _ _ _ (pv 1) (@aa _ _ _ _ _ (@af _ _ _ _) (@ag _) (by rfl)) (by rfl)) (by decide) (by rfl) (by rfl)) (@af _ _ _ _) (fun _ _=>rfl)) (@aa _ _ _ _ _ (@aq _ _ _ _ _ _ _ (@aJ _) (pv 3) (@af _ _ _ _) (fun _ _=>rfl)) (@ag _) (by rfl)) (by rfl))) (@ag _) (by rfl)) (by rfl)) (by rfl)) (by rfl)) (by rfl)) (by decide) (by rfl) (by rfl)) (by rfl) (by first|exact .inl rfl|exact .inr rfl|assumption)) (@ah _ _ _ _ _ (@ay _ _ (6) _ _ _ _ eM.nd rfl (aaM rfl) (@ao _ _ _ _ _ _ _ _ _ _ df (hr.mono (by decide)) rfl (@aa _ _ _ _ _ (@ao _ _ _ _ _ _ _ _ _ _ b6 (hr.mono (by decide)) rfl (@aa _ _ _ _ _ (pv 0) (@aa _ _ _ _ _ (@af _ _ _ _) (@ag _) (by rfl)) (by rfl)) (by decide) (by rfl) (by rfl)) (@aa _ _ _ _ _ (@af _ _ _ _) (@ag _) (by rfl)) (by rfl)) (by decide) (by rfl) (by rfl)) (by rfl) (by first|exact .inl rfl|exact .inr rfl|assumption)) (@ah _ _ _ _ _ (@ie _ (7) _ _ _ _ _ _ _ _ _ _ _ _ _ [] eM.nd rfl (aaM rfl) rfl (by kernel_rfl) (@aT _ _ _ _ (pv 2)) (fun _ _ _ _ _=>(@bE _)) (fun _ _ _ _ _=>(@ao _ _ _ _ _ _ _ _ _ _ fG (hr.mono (by decide)) rfl (@aa _ _ _ _ _ (pv 0) (@ag _) (by rfl)) (by decide) (by rfl) (by rfl))) (by rfl) (by intro _;rfl) (by first|exact .inl rfl|exact .inr rfl|assumption)) (@ah _ _ _ _ _ (@ay _ _ (8) _ _ _ _ eM.nd rfl (aaM rfl) (@cX _ _ _ _ _ _ _ _ _ (@pN _) rfl vW PyProof.Rows.Boot.«list» (@aa _ _ _ _ _ (pv 7) (@ag _) (by rfl)) (by decide) (by decide) (by rfl) (by rfl)) (by rfl) (by first|exact .inl rfl|exact .inr rfl|assumption)) (@ah _ _ _ _ _ (@ay _ _ (9) _ _ _ _ eM.nd rfl (aaM rfl) (@aV _ _ _ _ (@ag _)) (by rfl) (by first|exact .inl rfl|exact .inr rfl|assumption)) (@ah _ _ _ _ _ (@b8 _ _ _ _ _ _ _ _ aa0 rfl (@cC _ _ _ _ _ _ rfl bY (@aa _ _ _ _ _ (@aK _ _ _ _ _ _ _ _ _ (@aB _) rfl aY aaF (@aa _ _ _ _ _ (pv 5) (@ag _) (by rfl)) (by decide) (by decide) (by rfl) (by rfl)) (@ag _) (by rfl)) (by rfl)) (@bw _ _ (10) _ eM.nd rfl (aaM rfl) (by first|exact .inl rfl|exact .inr rfl|assumption)) (@ah _ _ _ _ _ (@bh _ _ _ _ (@bx _ _ _ _ _ _ _ _ _ _ _ _ aaD aaI aaL (@bg _) (pv 7) (@aa _ _ _ _ _ (@ao _ _ _ _ _ _ _ _ _ _ fH (hr.mono (by decide)) rfl (@aa _ _ _ _ _ (@aq _ _ _ _ _ _ _ (@aJ _) (pv 6) (pv 10) (fun _ _=>rfl)) (@aa _ _ _ _ _ (@aq _ _ _ _ _ _ _ (@aJ _) (pv 5) (pv 10) (fun _ _=>rfl)) (@ag _) (by rfl)) (by rfl)) (by decide) (by rfl) (by rfl)) (@ag _) (by rfl)) (by rfl) (by rfl) (by rfl) (by rfl) (by rfl)) (by rfl)) (@ah _ _ _ _ _ (@ay _ _ (11) _ _ _ _ eM.nd rfl (aaM rfl) (@ao _ _ _ _ _ _ _ _ _ _ iU (hr.mono (by decide)) rfl (@aa _ _ _ _ _ (pv 2) (@aa _ _ _ _ _ (@aq _ _ _ _ _ _ _ (@aJ _) (pv 5) (pv 10) (fun _ _=>rfl)) (@ag _) (by rfl)) (by rfl)) (by decide) (by rfl) (by rfl)) (by rfl) (by first|exact .inl rfl|exact .inr rfl|assumption)) (@ah _ _ _ _ _ (@aX _ _ _ _ _ _ _ _ (@aE _ _ _ _ _ _ _ _ (@cg _) (pv 11) (@af _ _ _ _) (aM _)) (@ak _ _ _ (@bh _ _ _ _ (@bx _ _ _ _ _ _ _ _ _ _ _ _ aaD aaI aaL (@bg _) (pv 8) (@aa _ _ _ _ _ (@aq _ _ _ _ _ _ _ (@aJ _) (pv 7) (@aw _ _ _ _ _ _ _ _ (@En _) (@aK _ _ _ _ _ _ _ _ _ (@aB _) rfl aY aaF (@aa _ _ _ _ _ (pv 7) (@ag _) (by rfl)) (by decide) (by decide) (by rfl) (by rfl)) (@af _ _ _ _)) (fun _ _=>rfl)) (@ag _) (by rfl)) (by rfl) (by rfl) (by rfl) (by rfl) (by rfl)) (by rfl))) (@aI _)) (@ak _ _ _ (@aX _ _ _ _ _ _ _ _ (PW.pt (lB (aE lD (pv 11) af (aM _)) (hV (aE (Ko hr.units) (pv 9) (aV ag) (aM _))))) (@ak _ _ _ (@ay _ _ (9) _ _ _ _ eM.nd rfl (aaM rfl) (@aV _ _ _ _ (@aa _ _ _ _ _ (@cZ _ _ _ _ _ _ _ _ (@cg _) (pv 11) (@af _ _ _ _) (aM _)) (@aa _ _ _ _ _ (@cZ _ _ _ _ _ _ _ _ (@cg _) (pv 11) (@af _ _ _ _) (aM _)) (@aa _ _ _ _ _ (@cZ _ _ _ _ _ _ _ _ (@cg _) (pv 11) (@af _ _ _ _) (aM _)) (@aa _ _ _ _ _ (@cZ _ _ _ _ _ _ _ _ (@cg _) (pv 11) (@af _ _ _ _) (aM _)) (@aa _ _ _ _ _ (@cZ _ _ _ _ _ _ _ _ (@cg _) (pv 11) (@af _ _ _ _) (aM _)) (@aa _ _ _ _ _ (@d7 _ _ _ _) (@ag _) (by rfl)) (by rfl)) (by rfl)) (by rfl)) (by rfl)) (by rfl))) (by rfl) (by first|exact .inl rfl|exact .inr rfl|assumption))) (@aI _)))))) (by intro _;rfl)) (@ah _ _ _ _ _ (@ay _ _ (12) _ _ _ _ eM.nd rfl (aaM rfl) (@ao _ _ _ _ _ _ _ _ _ _ gA (hr.mono (by decide)) rfl (@aa _ _ _ _ _ (@bx _ _ _ _ _ _ _ _ _ _ _ _ aaC aaO aaP (@cf _) (@aF _ _ _ _) (@aa _ _ _ _ _ (pv 7) (@ag _) (by rfl)) (by rfl) (by rfl) (by rfl) (by rfl) (by rfl)) (@ag _) (by rfl)) (by decide) (by rfl) (by rfl)) (by rfl) (by first|exact .inl rfl|exact .inr rfl|assumption)) (@ah _ _ _ _ _ (@aX _ _ _ _ _ _ _ _ (@aE _ _ _ _ _ _ _ _ (@PU _ hr.units) (@aq _ _ _ _ _ _ _ (@ar _) (pv 12) (@af _ _ _ _) (fun _ _=>rfl)) (pv 9) (aM _)) (@ak _ _ _ (@aG _ _ _ _ (@d7 _ _ _ _))) (@aI _)) (@ah _ _ _ _ _ (@ay _ _ (12) _ _ _ _ eM.nd rfl (aaM rfl) (@ao _ _ _ _ _ _ _ _ _ _ gA (hr.mono (by decide)) rfl (@aa _ _ _ _ _ (@bx _ _ _ _ _ _ _ _ _ _ _ _ aaC aaO aaP (@cf _) (@aF _ _ _ _) (@aa _ _ _ _ _ (pv 8) (@ag _) (by rfl)) (by rfl) (by rfl) (by rfl) (by rfl) (by rfl)) (@ag _) (by rfl)) (by decide) (by rfl) (by rfl)) (by rfl) (by first|exact .inl rfl|exact .inr rfl|assumption)) (@ak _ _ _ (@aG _ _ _ _ (@zL _ _ _ _ _ _ _ (@cZ _ _ _ _ _ _ _ _ (@Ko _ hr.units) (@aq _ _ _ _ _ _ _ (@ar _) (pv 12) (@af _ _ _ _) (fun _ _=>rfl)) (@aV _ _ _ _ (@ag _)) (aM _)) (@uT _ _ _ _ _ (@cZ _ _ _ _ _ _ _ _ (@cg _) (@ao _ _ _ _ _ _ _ _ _ _ mT (hr.mono (by decide)) rfl (@aa _ _ _ _ _ (@aq _ _ _ _ _ _ _ (@ar _) (pv 12) (@af _ _ _ _) (fun _ _=>rfl)) (@ag _) (by rfl)) (by decide) (by rfl) (by rfl)) (@bx _ _ _ _ _ _ _ _ _ _ _ _ aaC aaO aaP (@cf _) (@aF _ _ _ _) (@aa _ _ _ _ _ (pv 8) (@ag _) (by rfl)) (by rfl) (by rfl) (by rfl) (by rfl) (by rfl)) (aM _))))))))))))))))))),?_⟩
 refine⟨_,rfl,a,ns,0,rfl,hS,by decide,fun v0=>?_⟩
 refine⟨_,rfl,(by show 5≤aaj;decide),fun lz hlz=>⟨v0,lz,[0,1,2,2,1],2,rfl,aL.of ae,by decide,by decide,by decide,by decide,fun lk ks H2 s2 Td Oi hG yJ=>?_⟩⟩
 have sA:ai H H2:=ai.trans (aj hlz _) s2
 refine⟨_,rfl,a,ns,1,rfl,sA.seq hS,by decide,fun v1=>⟨v1,5,rfl,by decide,fun lo os H3 s3 hlo YZ ho hog aff=>?_⟩⟩
 have sB:=ai.trans sA s3
 refine⟨_,rfl,a,ns,2,rfl,sB.seq hS,by decide,fun v2=>⟨v2,3,rfl,by decide,fun lw ws H4 s4 Q8 hLw hw hwg afi=>?_⟩⟩
 have sC:=ai.trans sB s4
 have Ud:=s4 _ _ YZ
 have Ue:=Oi.sm (ai.trans s3 s4)
 refine⟨_,rfl,_,rfl,_,rfl,_,rfl,lo,_,rfl,aL.of Ud,fun l5 Q0=>?_⟩
 have eC:fQ (os.map tx) none (some 4)=(os.take 4).map tx:=by
  rw [show(some (4:Int))=some ((4:Nat):Int) from rfl,Mn]
 rw [eC]
 have s5:=aj Q0 (.lst ((os.take 4).map tx))
 have h5:=ae (H:=H4) (a:=l5) (o:=.lst ((os.take 4).map tx))
 generalize upd H4 l5 (.lst ((os.take 4).map tx))=H5 at s5 h5 ⊢
 refine⟨_,rfl,_,rfl,v0,5,rfl,by decide,fun l6 Ug H6 s6 Od hL6 E8 Y4 _=>?_⟩
 have at4:∀{l:List Cs} (h:4<l.length),lu (l.map tx) 4=some (tx l[4]):=fun {l} h=>bz (j:=4) (by rw [aa6,Ge9 h];rfl)
 have hz4:4<Ug.length:=by omega
 have ho4:4<os.length:=by omega
 have GC:=ai.trans s5 s6
 refine⟨l6,_,4,_,rfl,rfl,aL.of hL6,at4 hz4,_,rfl,lo,_,4,_,rfl,rfl,aL.of (GC _ _ Ud),at4 ho4,(by show 2≤aaj;decide),fun l7 YY=>?_⟩
 have s7:=aj YY (.lst [tx Ug[4],tx os[4]])
 have h7:=ae (H:=H6) (a:=l7) (o:=.lst [tx Ug[4],tx os[4]])
 generalize upd H6 l7 (.lst [tx Ug[4],tx os[4]])=H7 at s7 h7 ⊢
 have VA:=ai.trans GC s7
 have sD:=ai.trans sC VA
 have Vu:∀{l:List Cs},(∀n∈l,aD n=true∧n.headD 0∈ef.cps.toList)→∀n∈l,a6 n=true:=fun h n hn=>by
  have z:=h n hn
  unfold a6
  rw [z.1,decide_eq_true z.2]
  rfl
 have hON:∀n∈os.take 4++ws,aD n=true:=fun n hn=>by
  rcases aaq.mp hn with z|z
  ·exact(hog n (abn z)).1
  ·exact(hwg n z).1
 refine⟨a,lk,l5,lw,l7,ns,ks,os.take 4,ws,Ug[4],os[4],rfl,sD.seq hS,hn,Ue.sm VA,hG,yJ,(ai.trans s6 s7) _ _ h5,VA _ _ hLw,(by rw [aaA];omega),hw,hON,h7,Vu Y4 _ (aap hz4),(hog _ (aap ho4)).1,fun l8 rs vs H8 s8 hL8 pr Lx h6=>?_⟩
 have sE:=ai.trans sD s8
 refine⟨_,rfl,a,ns,4,rfl,sE.seq hS,by decide,fun v4=>⟨v4,6,rfl,by decide,fun lt zs H9 s9 t9 X5 hz X3 Ql=>?_⟩⟩
 have s49:=ai.trans VA (ai.trans s8 s9)
 obtain⟨kvs,Y5,Y6⟩:=Ue.sm s49
 have zk:=aao Y6
 have h4:=hG.len
 refine⟨_,rfl,lk,rfl,⟨_,aL.of Y5⟩,fun D2 kO=>?_⟩
 refine cS (K:=K) (xs:=kvs) (ks.map az) (fun _ _ b y=>y=tx b) (fun _ _ _ _ _ _ h=>h) (fun _ _ _ _ _ _ h=>h) (iC (by omega)) kO (aL.of Y5) (by rw [Lm9];exact zk) (fun i y b H' R hy hb sm hQ=>?_) (fun Rb ys Y7 MY po=>?_)
 ·obtain⟨hi,ey⟩:=aN hy
  obtain⟨dw,eb⟩:=aN hb
  rw [Lm9] at dw
  rw [aaG] at eb
  have hK:=paired_at Y6 i dw hi
  rw [ey] at hK
  have h2:=hG.ok _ (aap dw)
  exact⟨_,rfl,y,_,rfl,Kind.sm sm hK,(dW h2.1).2,h2.2,fun H2 s2=>hQ _ _ s2 (by rw [← eb])⟩
 rw [cq po] at MY
 obtain⟨zRS,Uh,eTi⟩:=titled (rs:=rs) (zs:=zs) (by omega) Lx (Vu X3)
 have Ui:∀i (h:i<(acE nS rs zs).length) (h1:i<rs.length) (h2:i<zs.length),(acE nS rs zs)[i]=nS rs[i] zs[i]:=fun i h h1 h2=>List.getElem_zipWith
 generalize acE nS rs zs=RS at zRS Uh eTi Ui
 have hndT:(RS.map (·.title)).Nodup:=by rw [eTi];exact Ql.sublist (List.take_sublist _ _)
 have zr:=aao pr
 have afn:=ai.trans s9 Y7
 refine bW ?_
 dsimp only
 refine⟨_,rfl,D2,_,rfl,.inl (aL.of MY),fun lg Rf=>?_⟩
 have MS:=aj Rf (.lst ((ks.map az).map tx))
 have Y8:=ae (H:=Rb) (a:=lg) (o:=.lst ((ks.map az).map tx))
 have Qz:=MS _ _ MY
 generalize upd Rb lg (.lst ((ks.map az).map tx))=Ym at MS Y8 Qz ⊢
 refine⟨(by show 0≤aaj;decide),fun ld Uj=>?_⟩
 have xj:=aj Uj (.lst [])
 have MG:=ae (H:=Ym) (a:=ld) (o:=.lst [])
 have Uk:=xj _ _ Qz
 have Ul:=xj _ _ Y8
 have QA:=ai.trans Y7 (ai.trans MS xj)
 have Y9:H9 lg=none:=Y7.free Rf
 have nDg:D2≠lg:=fun e=>by rw [← e,MY] at Rf;cases Rf
 have ndD:ld≠D2:=fun e=>by rw [e,Qz] at Uj;cases Uj
 have ndg:ld≠lg:=fun e=>by rw [e,Y8] at Uj;cases Uj
 generalize upd Ym ld (.lst [])=Yq at xj MG Uk Ul QA ⊢
 have hL9:=s9 _ _ hL8
 have pr9:Paired (U5 K H9) rs vs:=ax pr fun _ _ _ ⟨t,e,z⟩=>⟨t,e,z.sm s9⟩
 refine bW ?_
 dsimp only
 refine⟨_,rfl,l8,_,rfl,.inl (aL.of (QA _ _ hL9)),(vs.length:Int),rfl,by omega,by omega,?_⟩
 rw [abr]
 refine gB (lo:=0) (n:=vs.length) (fun i σ H'=>ai H9 H'∧H' D2=some (.lst ((ks.map az++(RS.take i).map aU).map tx))∧H' lg=some (.lst ((ks.map az++((RS.take i).filter fun r=>decide (judge ks r=0)).map aU).map tx))∧∃(ld:aaB) (Qx MX:Option V),ld≠D2∧ld≠lg∧H' ld=some (.lst (if ba ks (RS.take i)=0 then [] else gr (ba ks (RS.take i))))∧σ=[some (.ref a),some (.int v0),some (.ref lk),some (.ref lo),some (.ref lw),some (.ref l8),some (.ref lt),some (.ref D2),some (.ref lg),some (.ref ld),Qx,MX,none]) ⟨QA,by rw [acx,abJ,aaZ];exact Uk,by rw [acx,aee,abJ,aaZ];exact Ul,ld,none,none,ndD,ndg,MG,rfl⟩ ?_ ?_
 ·rintro i σ H' hi ⟨sm,hD,Qw,ld,Qx,MX,VB,QW,hl,rfl⟩
  have Qj:i<rs.length:=by omega
  have Za:i<RS.length:=by omega
  have hiZ:i<zs.length:=by omega
  have eR:=Ui i Za Qj hiZ
  obtain⟨hT,SN⟩:=Uh _ (aap Za)
  obtain⟨tI,eI,hRI⟩:=paired_at pr9 i Qj hi
  have a1:lu (zs.map tx) (0+(i:Int))=some (tx zs[i]):=by rw [acG];exact bz (by rw [aa6,Ge9 hiZ];rfl)
  have a2:lu vs (0+(i:Int))=some (.ref tI):=by rw [acG,← eI];exact bz (Ge9 hi)
  have eTt:RS[i].title=zs[i]:=by rw [eR];rfl
  have eJ:judge ks RS[i]=judge ks rs[i]:=by rw [eR];rfl
  have Zb:Df K H9 tI RS[i]:=by rw [eR];exact hRI
  have hWi:=Lx _ (aap Qj)
  have hJ5:=Di ks RS[i]
  have GD:=aak Za
  have hzz:((ks.map az++(RS.take i).map aU).map tx).length=4+i:=by simp only [Lm9,aag,aaA];omega
  refine⟨_,rfl,.inl ⟨rfl,_,aL.of hD⟩,_,rfl,_,rfl,lt,_,_,_,rfl,rfl,aL.of (sm _ _ X5),a1,_,rfl,_,rfl,l8,_,_,_,rfl,rfl,aL.of (sm _ _ hL9),a2,tI,RS[i],(by rw [eTt];rfl),Zb.sm sm,hT,fun HX sX=>?_⟩
  refine⟨D2,_,_,rfl,rfl,sX _ _ hD,(by rw [hzz,aax];omega),?_⟩
  have hgX:=sX _ _ Qw
  have hlX:=sX _ _ hl
  have Lo:ai H9 (upd HX D2 (.lst ((ks.map az++(RS.take i).map aU).map tx++[tx (aU RS[i])]))):=ai.aR (ai.trans sm sX) kO _
  have Po:=ae (H:=HX) (a:=D2) (o:=.lst ((ks.map az++(RS.take i).map aU).map tx++[tx (aU RS[i])]))
  have NP:upd HX D2 (.lst ((ks.map az++(RS.take i).map aU).map tx++[tx (aU RS[i])])) lg=_:=(aH (ack nDg)).trans hgX
  have vh:upd HX D2 (.lst ((ks.map az++(RS.take i).map aU).map tx++[tx (aU RS[i])])) ld=_:=(aH VB).trans hlX
  generalize upd HX D2 (.lst ((ks.map az++(RS.take i).map aU).map tx++[tx (aU RS[i])]))=HY at Lo Po NP vh ⊢
  have eD1:(ks.map az++(RS.take i).map aU).map tx++[tx (aU RS[i])]=(ks.map az++(RS.take (i+1)).map aU).map tx:=by
   rw [GD]
   simp only [aat,aa5,abJ,aaT]
  have Zc:nC K HY lk ks:=⟨kvs,Lo _ _ Y5,ax Y6 fun _ _ _=>Kind.sm Lo⟩
  refine⟨_,rfl,_,rfl,_,rfl,l8,_,_,_,rfl,rfl,aL.of (Lo _ _ hL9),a2,lk,tI,ks,rs[i],rfl,Zc,hG,hRI.sm Lo,hWi.mono (by decide) (by decide),fun HZ sZ=>?_⟩
  rw [← eJ]
  have VC:=sZ _ _ Po
  have Zd:=sZ _ _ NP
  have hlZ:=sZ _ _ vh
  have smZ:=ai.trans Lo sZ
  refine bW ?_
  dsimp only
  refine dE (Good:=fun σ' HW=>ai H9 HW∧HW D2=some (.lst ((ks.map az++(RS.take (i+1)).map aU).map tx))∧HW lg=some (.lst ((ks.map az++((RS.take (i+1)).filter fun r=>decide (judge ks r=0)).map aU).map tx))∧HW ld=some (.lst (if ba ks (RS.take i)=0 then [] else gr (ba ks (RS.take i))))∧σ'=[some (.ref a),some (.int v0),some (.ref lk),some (.ref lo),some (.ref lw),some (.ref l8),some (.ref lt),some (.ref D2),some (.ref lg),some (.ref ld),some (.int (0+(i:Int))),some (.int (judge ks RS[i])),none]) (fun fin=>?_) (fun σ' HW Ze=>?_)
  ·refine⟨_,rfl,rfl,_,rfl,?_⟩
   by_cases h0:judge ks RS[i]=0
   ·rw [decide_eq_true (show V.int ((judge ks RS[i]:Nat):Int)=V.int 0 by rw [h0];rfl)]
    refine cL ?_
    have Um:lu ((ks.map az++(RS.take i).map aU).map tx++[tx (aU RS[i])]) ((((ks.map az++(RS.take i).map aU).map tx++[tx (aU RS[i])]).length:Int) - 1)=some (tx (aU RS[i])):=by
     rw [aag,show(((((ks.map az++(RS.take i).map aU).map tx).length+[tx (aU RS[i])].length:Nat):Int) - 1)=(((ks.map az++(RS.take i).map aU).map tx).length:Nat) by simp only [abk];omega]
     exact bz (by simp)
    have afw:((ks.map az++((RS.take i).filter fun r=>decide (judge ks r=0)).map aU).map tx).length≤10:=by
     have z:((RS.take i).filter fun r=>decide (judge ks r=0)).length≤(RS.take i).length:=abK _ _
     rw [aaA] at z
     simp only [Lm9,aag]
     omega
    refine⟨_,rfl,.inl ⟨rfl,_,aL.of Zd⟩,_,rfl,_,rfl,D2,_,rfl,.inl (aL.of VC),_,_,rfl,rfl,D2,_,_,_,rfl,rfl,aL.of VC,Um,lg,_,_,rfl,rfl,Zd,(by rw [aax];omega),?_⟩
    refine fin _ _ ⟨ai.aR smZ Y9 _,?_,?_,?_,rfl⟩
    ·rw [aH nDg,VC,eD1]
    ·rw [ae,GD,abp,ab1,if_pos (by rw [decide_eq_true h0])]
     simp only [aat,aa5,abJ,aaT,aee]
    ·rw [aH QW]
     exact hlZ
   ·rw [decide_eq_false (fun z=>h0 (by have:=V.int.inj z;omega))]
    refine bo (fin _ _ ⟨smZ,by rw [VC,eD1],?_,hlZ,rfl⟩)
    rw [Zd,GD,abp,ab1,if_neg (by rw [decide_eq_false h0];exact aaJ),aee,aaZ]
  obtain⟨smW,hDW,hgW,hlW,rfl⟩:=Ze
  have Zf:ba ks (RS.take (i+1))=if ba ks (RS.take i)=0 then judge ks RS[i] else ba ks (RS.take i):=by rw [GD];exact tH ks _ _
  refine⟨_,rfl,_,_,rfl,rfl,_,rfl,?_⟩
  by_cases h0:judge ks RS[i]=0
  ·rw [decide_eq_false (show ¬ (0:Int)<((judge ks RS[i]:Nat):Int) by omega)]
   refine bo (bo ⟨smW,hDW,hgW,ld,_,_,VB,QW,?_,rfl⟩)
   rw [hlW,Zf,h0]
   by_cases hj:ba ks (RS.take i)=0
   ·rw [if_pos hj,if_pos hj,if_pos rfl]
   ·rw [if_neg hj,if_neg hj,if_neg hj]
  ·rw [decide_eq_true (show(0:Int)<((judge ks RS[i]:Nat):Int) by omega)]
   refine cL ⟨_,rfl,(by show 0≤aaj;decide),fun le hle=>?_⟩
   have v1:=aj hle (.lst [])
   have e1:=ae (H:=HW) (a:=le) (o:=.lst [])
   have VD:=v1 _ _ hDW
   have Ou:=v1 _ _ hgW
   have MV:=v1 _ _ hlW
   have Zg:=ai.trans smW v1
   generalize upd HW le (.lst [])=HV at v1 e1 VD Ou MV Zg ⊢
   refine⟨ld,le,_,rfl,rfl,aL.of MV,aL.of e1,_,rfl,?_⟩
   by_cases hj:ba ks (RS.take i)=0
   ·rw [if_pos hj,decide_eq_true rfl]
    refine cL ⟨_,rfl,rfl,_,rfl,rfl,_,rfl,rfl,_,rfl,rfl,_,rfl,rfl,(by show 6≤aaj;decide),fun lf Lr=>?_⟩
    rw [Kv]
    have v2:=aj Lr (.lst (gr (judge ks RS[i])))
    refine⟨ai.trans Zg v2,v2 _ _ VD,v2 _ _ Ou,lf,_,_,(fun e=>by rw [e,VD] at Lr;cases Lr),(fun e=>by rw [e,Ou] at Lr;cases Lr),?_,rfl⟩
    rw [ae,Zf,if_pos hj,if_neg h0]
   ·have hne:gr (ba ks (RS.take i))≠[]:=by unfold gr;simp
    rw [if_neg hj,decide_eq_false hne]
    refine bo ⟨Zg,VD,Ou,ld,_,_,VB,QW,?_,rfl⟩
    rw [MV,Zf,if_neg hj,if_neg hj,if_neg hj]
 rintro σ Yw ⟨sm,hD,Qw,ld,Qx,MX,VB,QW,hl,rfl⟩
 have Zh:RS.take vs.length=RS:=abm (by omega)
 rw [Zh] at hD Qw hl
 have Uo:∀r∈RS,kW r:=fun r hr=>(Uh r hr).1
 obtain⟨its,hne,MD,hjn,Ly,Q9,hB,eK,eRs⟩:=Gy hG Uo (fun r hr=>(Uh r hr).2) hndT (by omega)
 have Up:∀r∈RS.filter fun r=>decide (judge ks r=0),r∈RS:=fun r hr=>(abf.mp hr).1
 have hGl:(RS.filter fun r=>decide (judge ks r=0)).length≤RS.length:=abK _ _
 have hGn:((RS.filter fun r=>decide (judge ks r=0)).map (·.title)).Nodup:=hndT.sublist ((List.filter_sublist).map _)
 have hGj:=iE ks RS
 generalize RS.filter (fun r=>decide (judge ks r=0))=GS at Qw Up hGl hGn hGj
 obtain⟨dS,Zi,Zj,Zk,MO,Qn,hB2,eK2,Uq⟩:=Gy hG (fun r hr=>Uo r (Up r hr)) (fun r hr=>(Uh r (Up r hr)).2) hGn (by omega)
 have enl:(aaf "\n")=⟨#[10]⟩:=by decide +kernel
 have e1:(⟨#[10]⟩:Str).length=1:=rfl
 have z1:=dk (as:=ks.map az++RS.map aU) (B:=1600) Ly
 have z2:=dk (as:=ks.map az++GS.map aU) (B:=1600) MO
 have y1:(ks.map az++RS.map aU).length * 1600≤10 * 1600:=abO _ Q9
 have y2:(ks.map az++GS.map aU).length * 1600≤10 * 1600:=abO _ Qn
 dsimp only
 rw [enl]
 refine⟨rfl,_,rfl,_,D2,(ks.map az++RS.map aU).map S,rfl,rfl,.inl (aL.of (by rw [← dX];exact hD)),(by rw [e1,Lm9];omega),?_⟩
 rw [il,qe]
 refine⟨ks.map az++RS.map aU,its,rfl,hne,MD,hjn,hB,(by rw [eRs];exact Uo),fun t1 l1 u1 H14 Lw Ao hF1 hZ1=>?_⟩
 rw [eK,eRs] at hF1 hZ1
 obtain⟨bs,RZ,vh⟩:∃bs:List Bool,(if ba ks RS=0 then [] else gr (ba ks RS))=bs.map V.bl∧H14 l1=some (.lst (bs.map V.bl)):=by
  by_cases h0:ba ks RS=0
  ·exact⟨[],by rw [if_pos h0];rfl,(hZ1 h0).1⟩
  ·exact⟨[ba ks RS == 1,ba ks RS == 2,ba ks RS == 3,ba ks RS == 4,ba ks RS == 5,true],by rw [if_neg h0];rfl,hF1 h0⟩
 rw [RZ] at hl
 refine bW ?_
 dsimp only
 refine⟨_,rfl,t1,_,1,_,rfl,rfl,bT.of Ao,rfl,_,rfl,Alike.bools (aL.of vh) (aL.of (Lw _ _ hl)),_,rfl,bo ?_⟩
 have Ur:=Lw _ _ Qw
 refine⟨rfl,_,rfl,_,lg,(ks.map az++GS.map aU).map S,rfl,rfl,.inl (aL.of (by rw [← dX];exact Ur)),(by rw [e1,Lm9];omega),?_⟩
 rw [il,qe]
 refine⟨ks.map az++GS.map aU,dS,rfl,Zi,Zj,Zk,hB2,(by rw [Uq];exact fun r hr=>Uo r (Up r hr)),fun t2 l2 u2 H15 Of qo _ hZ2=>?_⟩
 rw [eK2,Uq] at hZ2
 obtain⟨i8,H0,Y1⟩:=hZ2 hGj
 refine bW ?_
 dsimp only
 refine⟨_,rfl,t2,_,1,_,rfl,rfl,bT.of qo,rfl,(by show 0≤aaj;decide),fun le hle=>?_⟩
 have v1:=aj hle (.lst [])
 have g1:=ae (H:=H15) (a:=le) (o:=.lst [])
 generalize upd H15 le (.lst [])=H16 at v1 g1 ⊢
 refine⟨l2,le,_,rfl,rfl,aL.of (v1 _ _ i8),aL.of g1,_,rfl,?_⟩
 rw [decide_eq_true rfl]
 refine cL ?_
 refine⟨_,rfl,t2,_,0,_,rfl,rfl,bT.of (v1 _ _ qo),rfl,u2,H0,ks,GS,rfl,Y1.keep (Kp.same v1),(fun k hk=>⟨(dW (hG.ok k hk).1).2,(hG.ok k hk).2⟩),(by omega),(fun r hr=>Uo r (Up r hr)),(by omega),fun H17 s17=>?_⟩
 have Zl:=s17 _ _ (v1 _ _ (Of _ _ Ur))
 refine⟨rfl,_,rfl,_,lg,(ks.map az++GS.map aU).map S,rfl,rfl,.inl (aL.of (by rw [← dX];exact Zl)),(by rw [e1,Lm9];omega),?_⟩
 rw [il,qe]
 refine⟨rfl,?_⟩
 have eY:decide (tx (cH (ks.map az++GS.map aU))=V.str (S (cH (ks.map az++GS.map aU))))=true:=decide_eq_true rfl
 rw [eY]
 exact q _
end
end ft
namespace ft
open PySem L2 cR Bk
open PySem.W (nsIn findIn keepIn mg_of isFn mroIn)
set_option maxHeartbeats 4000000
def bI (K:aae) (x:Str) (st:Stmt) (f:aaB) (fd:aa9):Prop:=nsIn K aaU x=some (some (.ref f))∧dn K x x st f fd
section
variable {P:aaS} {w:abg} {K:aae} {mg:Str→Option aai} {base h:Heap} {x:Str} {k:Nat} {ps:List Str} {sp:Sp} {f:aaB} {fd:aa9} {st:Stmt}
def GF (ps:List Str) (x:Str) (st:Stmt):Prop:=∀(kV doc pm:aai) (an:Option aaB) (cJ ct:aai) (us:List aai),us.length=ps.length→bindArgs (aca x x (jz st) (gp st) (au st) .none kV doc pm an cJ ct) ⟨us,[]⟩=pure (ps.zip us)
theorem QB (X:K.In h) (G:h.Ns aaU mg) (F:bI K x st f fd) (o:a4 P w K mg base dJ k f fd ps sp) (b:GF ps x st):dz P w K mg base x k ps sp:=⟨_,_,o,F.2.binds b,F.2.2,mg_of X G F.1⟩
theorem MZ (X:K.In h) (G:h.Ns aaU mg) (F:bI K x st f fd) (o:a4 P w K mg base (Ef P w) k f fd ps sp) (b:GF ps x st):Ac P w K mg base x k ps sp:=⟨_,_,o,F.2.binds b,F.2.2,mg_of X G F.1⟩
theorem b1 {Pr:List aai→Prop} (h:∀u0,Pr [u0]):∀us:List aai,us.length=1→Pr us
 | [u0],_=>h u0
theorem b2 {Pr:List aai→Prop} (h:∀u0 u1,Pr [u0,u1]):∀us:List aai,us.length=2→Pr us
 | [u0,u1],_=>h u0 u1
theorem b3 {Pr:List aai→Prop} (h:∀u0 u1 u2,Pr [u0,u1,u2]):∀us:List aai,us.length=3→Pr us
 | [u0,u1,u2],_=>h u0 u1 u2
theorem b4 {Pr:List aai→Prop} (h:∀u0 u1 u2 u3,Pr [u0,u1,u2,u3]):∀us:List aai,us.length=4→Pr us
 | [u0,u1,u2,u3],_=>h u0 u1 u2 u3
theorem b5 {Pr:List aai→Prop} (h:∀u0 u1 u2 u3 u4,Pr [u0,u1,u2,u3,u4]):∀us:List aai,us.length=5→Pr us
 | [u0,u1,u2,u3,u4],_=>h u0 u1 u2 u3 u4
end
theorem qB {K:aae} {C:aaB} (h:mroIn K C (.type "ValueError")=some true):abM K (.ref C) (.type "ValueError")=some true:=by
 unfold abM
 rw [if_neg (by simp)]
 show(if PySem.W.kitMeta "ValueError"=true then PySem.W.subIn K (.ref C) (.type "ValueError") else none)=_
 rw [if_pos (by decide +kernel)]
 exact h
theorem all_mk {l:aeb} {w:abg} {K:aae} {h:Heap} {mg:Str→Option aai} {fa eD cI dh fm bB bb bc bf bC d3 f_0 f_1 f_2 f_3 f_4 f_5 f_6 f_7 f_8 f_9 Zm Zn Zo Zp Zq Zr Zs Zt Zu Zv Zw Zx Zy Zz ZA ZC ZD ZE ZF ZG ZH ZI ZJ ZK ZL ZM ZN ZO ZP ZQ ZR ZS ZT ZU ZV ZW ZX ZY Z0 Z1 Z2 Z3 Z4 Z5 Z6 Z7 Z8 Z9 aaa aab aac aad QC fN iV gZ iW iY gc:aaB} (X:K.In h) (G:h.Ns aaU mg) (mI:mg "law"=some (.ref fa))
  {wy HI uw Fd K3 Fe wz HJ wA HK A5 x8 DE K4 qC DF DG A6 A7 DH DI Ff A8 DJ ya yb A9 Ba yc Bb DK wB Fg Bc yd Bd Be DL sQ Bf DM DN DO DP DQ Bg ye Bh Bi Fh DR sR sS Bj Bl Fi nE qE wC yf Bm Bn yg yh wD yi yj ux:aa9} {QD K5:Option aaB} {QE:Array (Option aai)} {QF K6 K7 K8 Fj K9:aai}
  {Bo Bp zu zw qF mU:Tok}
  {kq kr wF:aaB}
  {wG wH wI wJ wK wL wM Fl Fm Fn Fo Fp:Tok}
  {nY nZ zz:Nat}
  {yk yl HL:Array (Option aai)}
  (M0:nsIn K aaU "Same"=some (some (.ref eD)))
  (HM:nsIn K aaU "Unlike"=some (some (.ref cI)))
  (M1:nsIn K aaU "Rule"=some (some (.ref dh)))
  (M3:nsIn K aaU "Book"=some (some (.ref fm)))
  (HN:nsIn K aaU "NoKind"=some (some (.ref bB)))
  (Fq:nsIn K aaU "BadArgs"=some (some (.ref bb)))
  (Fs:nsIn K aaU "BadTake"=some (some (.ref bc)))
  (Ft:nsIn K aaU "BadCall"=some (some (.ref bf)))
  (HP:nsIn K aaU "NoName"=some (some (.ref bC)))
  (Bq:nsIn K aaU "PoolError"=some (some (.ref d3)))
  (Us:nsIn K aaU "law"=some (some (.ref QC)))
  (Br:findIn K (.ref eD) "__init__"=some (some (.ref fN)))
  (Bs:findIn K (.ref eD) "word"=some (some (.ref iY)))
  (wN:findIn K (.ref cI) "__init__"=some (some (.ref fN)))
  (wO:findIn K (.ref cI) "word"=some (some (.ref gc)))
  (Bt:findIn K (.ref dh) "__init__"=some (some (.ref iV)))
  (ym:findIn K (.ref dh) "calls"=some (some (.ref gZ)))
  (Bu:findIn K (.ref fm) "__init__"=some (some (.ref iW)))
  (n0:isFn K (.ref fN)=true)
  (yn:isFn K (.ref iV)=true)
  (wQ:isFn K (.ref gZ)=true)
  (yo:isFn K (.ref iW)=true)
  (yp:isFn K (.ref iY)=true)
  (uy:isFn K (.ref gc)=true)
  (mV:bI K "is_name_sign" gL f_0 wy)
  (zA:bI K "is_name" sh f_1 HI)
  (kY:bI K "is_small_word" fZ f_2 uw)
  (wR:bI K "name_end" oH f_3 Fd)
  (DS:bI K "pieces" vN f_4 K3)
  (wU:bI K "piece_at" oI f_5 Fe)
  (mW:bI K "arguments_at" gO f_6 wz)
  (zB:bI K "fact_at" si f_7 HJ)
  (mX:bI K "row_of_facts" gM f_8 wA)
  (zC:bI K "is_told" sj f_9 HK)
  (qG:bI K "told_lines" jK Zm A5)
  (oa:bI K "line_pieces" iI Zn x8)
  (tL:bI K "read_kind" ma Zo DE)
  (DT:bI K "parted" vO Zp K4)
  (iy:bI K "check_two_names" fe Zq qC)
  (tM:bI K "read_look" mh Zr DF)
  (tN:bI K "read_pair" mi Zs DG)
  (qH:bI K "read_looks" jL Zt A6)
  (qI:bI K "read_pairs" jM Zu A7)
  (tO:bI K "read_part" mf Zv DH)
  (tP:bI K "read_rule" me Zw DI)
  (wV:bI K "is_great" oG Zx Ff)
  (qJ:bI K "open_names" jO Zy A8)
  (tQ:bI K "hear_line" mn Zz DJ)
  (og:bI K "check_facts" iF ZA ya)
  (oh:bI K "check_taken" iG ZC yb)
  (qK:bI K "said_names" jR ZD A9)
  (qL:bI K "check_call" jQ ZE Ba)
  (oi:bI K "check_names" iJ ZF yc)
  (qM:bI K "whole_book" jP ZG Bb)
  (tR:bI K "read_book" mm ZH DK)
  (mY:bI K "_law_cell_at" gP ZI wB)
  (wW:bI K "_law_mix" oJ ZJ Fg)
  (qN:bI K "_law_names" jS ZK Bc)
  (oj:bI K "_law_titles" iK ZL yd)
  (qO:bI K "_law_opens" jT ZM Bd)
  (qP:bI K "_law_words" jU ZN Be)
  (tS:bI K "fact_text" lX ZO DL)
  (jn:bI K "_law_fact_text" fA ZP sQ)
  (qQ:bI K "facts_text" jJ ZQ Bf)
  (tT:bI K "part_text" mw ZR DM)
  (tU:bI K "rule_text" mv ZS DN)
  (tV:bI K "kind_text" mr ZT DO)
  (tW:bI K "book_text" mq ZU DP)
  (tX:bI K "_law_fact" mx ZV DQ)
  (qR:bI K "_law_kinds" jV ZW Bg)
  (om:bI K "_law_counts" iM ZX ye)
  (qS:bI K "_law_facts" jW ZY Bh)
  (qT:bI K "_law_heads" jX Z0 Bi)
  (wX:bI K "_law_two" oK Z1 Fh)
  (tY:bI K "_law_rule" my Z2 DR)
  (jo:bI K "_law_rule_text" fB Z3 sR)
  (jq:bI K "_law_kind_text" fC Z4 sS)
  (qU:bI K "_law_fault" jY Z5 Bj)
  (qV:bI K "_law_lasts" jZ Z6 Bl)
  (wY:bI K "_law_odd" oM Z7 Fi)
  (gn:bI K "_law_spoiled_fact" eo Z8 nE)
  (iz:bI K "_law_stray_name" ff Z9 qE)
  (mZ:bI K "_law_spoiled" gQ aaa wC)
  (oo:bI K "_law_judged" iN aab yf)
  (qW:bI K "_law_asked" j0 aac Bm)
  (qX:bI K "_law_rules" j4 aad Bn)
  (Ut:K.lookup QC=some ⟨QF,QD,.func (aca "law" "law" (jz qm) (gp qm) (au qm) .none K6 K7 K8 K5 Fj K9),QE⟩)
  (Uu:adD K Fj "law"=true)
  (Uv:keepIn K (.ref QC)=true)
  (oq:dn K "__init__" "Look.__init__" lY fN yg)
  (ou:dn K "__init__" "Rule.__init__" mj iV yh)
  (g5:dn K "calls" "Rule.calls" jN gZ wD)
  (ow:dn K "__init__" "Book.__init__" ml iW yi)
  (iZ:dn K "word" "Same.word" lZ iY yj)
  (gg:dn K "word" "Unlike.word" iH gc ux)
  (M4:abS K eD acf=true)
  (M5:abX K eD=true)
  (M6:ab5 K eD=true)
  (M7:findIn K (.ref eD) "__setattr__"=some (some (.builtin "object.__setattr__")))
  (M8:acm K eD=true)
  (M9:keepIn K (.ref eD)=true)
  (DU:findIn K (.ref eD) "left"=some none)
  (Bv:findIn K (.ref eD) "right"=some none)
  (VE:findIn K (.ref eD) "__class__"=some (some (.builtin "object.__class__")))
  (VF:mroIn K eD (.type "object")=some true)
  (HQ:abS K cI acf=true)
  (HR:abX K cI=true)
  (HS:ab5 K cI=true)
  (HU:findIn K (.ref cI) "__setattr__"=some (some (.builtin "object.__setattr__")))
  (Ia:acm K cI=true)
  (Ib:keepIn K (.ref cI)=true)
  (yq:findIn K (.ref cI) "left"=some none)
  (wZ:findIn K (.ref cI) "right"=some none)
  (Rh:findIn K (.ref cI) "__class__"=some (some (.builtin "object.__class__")))
  (Ri:mroIn K cI (.type "object")=some true)
  (Na:abS K dh acf=true)
  (Nb:abX K dh=true)
  (Nc:ab5 K dh=true)
  (Nd:findIn K (.ref dh) "__setattr__"=some (some (.builtin "object.__setattr__")))
  (Nf:acm K dh=true)
  (Ng:keepIn K (.ref dh)=true)
  (Bw:findIn K (.ref dh) "title"=some none)
  (Bx:findIn K (.ref dh) "taken"=some none)
  (DV:findIn K (.ref dh) "kept"=some none)
  (By:findIn K (.ref dh) "looks"=some none)
  (Bz:findIn K (.ref dh) "given"=some none)
  (DW:findIn K (.ref dh) "told"=some none)
  (BA:findIn K (.ref dh) "names"=some none)
  (VG:findIn K (.ref dh) "__class__"=some (some (.builtin "object.__class__")))
  (VH:mroIn K dh (.type "object")=some true)
  (Nh:abS K fm acf=true)
  (Ni:abX K fm=true)
  (Nj:ab5 K fm=true)
  (Nk:findIn K (.ref fm) "__setattr__"=some (some (.builtin "object.__setattr__")))
  (Nl:acm K fm=true)
  (Nm:keepIn K (.ref fm)=true)
  (BB:findIn K (.ref fm) "kinds"=some none)
  (BC:findIn K (.ref fm) "rules"=some none)
  (VI:findIn K (.ref fm) "__class__"=some (some (.builtin "object.__class__")))
  (VJ:mroIn K fm (.type "object")=some true)
  (hn:adO K (.builtin "object.__class__") "__get__"=some (some (.builtin "getset_descriptor.__get__")))
  (Oh:PySem.W.takesIn K (.builtin "object.__class__")=some true)
  (g6:acq K bb=true)
  (ku:acg K (.ref bb)=some (.type "type"))
  (ky:mroIn K bb (.ref bb)=some true)
  (g7:acq K bf=true)
  (kz:acg K (.ref bf)=some (.type "type"))
  (kC:mroIn K bf (.ref bf)=some true)
  (g8:acq K bc=true)
  (kE:acg K (.ref bc)=some (.type "type"))
  (kJ:mroIn K bc (.ref bc)=some true)
  (jr:acq K bB=true)
  (nu:acg K (.ref bB)=some (.type "type"))
  (nv:mroIn K bB (.ref bB)=some true)
  (js:acq K bC=true)
  (ny:acg K (.ref bC)=some (.type "type"))
  (nz:mroIn K bC (.ref bC)=some true)
  (qY:mroIn K bB (.ref bb)=some false)
  (qZ:mroIn K bB (.ref bc)=some false)
  (rf:mroIn K bB (.ref bf)=some false)
  (sT:mroIn K bB (.ref bC)=some false)
  (rg:mroIn K bb (.ref bB)=some false)
  (oU:mroIn K bb (.ref bc)=some false)
  (oV:mroIn K bb (.ref bf)=some false)
  (rh:mroIn K bb (.ref bC)=some false)
  (rl:mroIn K bc (.ref bB)=some false)
  (oW:mroIn K bc (.ref bb)=some false)
  (oX:mroIn K bc (.ref bf)=some false)
  (rm:mroIn K bc (.ref bC)=some false)
  (rp:mroIn K bf (.ref bB)=some false)
  (oY:mroIn K bf (.ref bb)=some false)
  (oZ:mroIn K bf (.ref bc)=some false)
  (rq:mroIn K bf (.ref bC)=some false)
  (sU:mroIn K bC (.ref bB)=some false)
  (rA:mroIn K bC (.ref bb)=some false)
  (rB:mroIn K bC (.ref bc)=some false)
  (rC:mroIn K bC (.ref bf)=some false)
  (Np:nsIn K aaU "GREAT"=some (some (.str eX Bo)))
  (Nq:nsIn K aaU "SMALL"=some (some (.str ef Bp)))
  (Ic:nsIn K aaU "FIGURES"=some (some (.str Hc zu)))
  (Ie:nsIn K aaU "LONGEST"=some (some (.int 12 zw)))
  (BD:nsIn K aaU "LINE_MARKS"=some (some (.str eE qF)))
  (DX:nsIn K aaU "RULE_WORD"=some (some (.str (S dc) mU)))
  (BE:nsIn K aaU "ValueError"=some none)
  (Uw:nsIn K aaU "all"=some none)
  (QG:nsIn K aaU "dict"=some none)
  (Ux:nsIn K aaU "int"=some none)
  (BF:nsIn K aaU "isinstance"=some none)
  (Uy:nsIn K aaU "len"=some none)
  (QH:nsIn K aaU "list"=some none)
  (Nr:nsIn K aaU "range"=some none)
  (Uz:nsIn K aaU "str"=some none)
  (Nt:nsIn K aaU "tuple"=some none)
  (vY:abG K bB Jk u7=true)
  (sx:abG K bb Jk u7=true)
  (sJ:abG K bc Jk u7=true)
  (sO:abG K bf Jk u7=true)
  (wb:abG K bC Jk u7=true)
  (x11:ab4 K (.ref bB) (.ref d3)=some true)
  (x21:ab4 K (.ref bb) (.ref d3)=some true)
  (x31:ab4 K (.ref bc) (.ref d3)=some true)
  (x41:ab4 K (.ref bf) (.ref d3)=some true)
  (x51:ab4 K (.ref bC) (.ref d3)=some true)
  (La:adO K (.builtin "object.__class__") "__get__"=some (some (.builtin "getset_descriptor.__get__")))
  (Lb:adO K (.builtin "object.__class__") "__set__"=some (some (.builtin "getset_descriptor.__set__")))
  (DY:findIn K (.ref bB) "__getattribute__"=some (some (.builtin "BaseException.__getattribute__")))
  (DZ:findIn K (.ref bB) "__getattr__"=some none)
  (D0:findIn K (.ref bB) "__class__"=some (some (.builtin "object.__class__")))
  (D1:mroIn K bB (.type "object")=some true)
  (D4:mroIn K bB (.type "BaseException")=some true)
  (D5:mroIn K bB (.type "ValueError")=some true)
  (BG:findIn K (.ref bb) "__getattribute__"=some (some (.builtin "BaseException.__getattribute__")))
  (BH:findIn K (.ref bb) "__getattr__"=some none)
  (BI:findIn K (.ref bb) "__class__"=some (some (.builtin "object.__class__")))
  (BJ:mroIn K bb (.type "object")=some true)
  (BK:mroIn K bb (.type "BaseException")=some true)
  (BL:mroIn K bb (.type "ValueError")=some true)
  (BM:findIn K (.ref bc) "__getattribute__"=some (some (.builtin "BaseException.__getattribute__")))
  (BN:findIn K (.ref bc) "__getattr__"=some none)
  (BO:findIn K (.ref bc) "__class__"=some (some (.builtin "object.__class__")))
  (BP:mroIn K bc (.type "object")=some true)
  (BQ:mroIn K bc (.type "BaseException")=some true)
  (BR:mroIn K bc (.type "ValueError")=some true)
  (BS:findIn K (.ref bf) "__getattribute__"=some (some (.builtin "BaseException.__getattribute__")))
  (BU:findIn K (.ref bf) "__getattr__"=some none)
  (BV:findIn K (.ref bf) "__class__"=some (some (.builtin "object.__class__")))
  (BW:mroIn K bf (.type "object")=some true)
  (BX:mroIn K bf (.type "BaseException")=some true)
  (BY:mroIn K bf (.type "ValueError")=some true)
  (D6:findIn K (.ref bC) "__getattribute__"=some (some (.builtin "BaseException.__getattribute__")))
  (D7:findIn K (.ref bC) "__getattr__"=some none)
  (D8:findIn K (.ref bC) "__class__"=some (some (.builtin "object.__class__")))
  (D9:mroIn K bC (.type "object")=some true)
  (Ea:mroIn K bC (.type "BaseException")=some true)
  (Eb:mroIn K bC (.type "ValueError")=some true)
  (BZ:aeW K aaU "KIND_WORDS"=some (some (.ref kq)))
  (B1:K.lookup kq=some ⟨.type "tuple",none,.seq #[abN "passing" wG,abN "lasting" wH] nY,yk⟩)
  (B2:aeW K aaU "PART_WORDS"=some (some (.ref kr)))
  (rD:K.lookup kr=some ⟨.type "tuple",none,.seq #[abN "take" wI,abN "keep" wJ,abN "look" wK,abN "put" wL,abN "tell" wM] nZ,yl⟩)
  (Lc:aeW K aaU "COUNTS"=some (some (.ref wF)))
  (Ld:K.lookup wF=some ⟨.type "tuple",none,.seq #[abN "0" Fl,abN "1" Fm,abN "2" Fn,abN "3" Fo,abN "4" Fp] zz,HL⟩)
  : ∃fd:aa9,(∀(s:aan) (v:aai),BindsTo s fd ⟨[v],[]⟩ [("_law_script",v)])∧∀base:Heap,K.In base→base.Ns aaU mg→a4 l.prog w K mg base dJ 11 fa fd ["_law_script"] (Gg K):=by
 have e:=mI.symm.trans (mg_of X G Us)
 cases e
 have UA:=EA (st:=qm) Ut Uu Uv
 have oy:=oq.binds (ps:=["self","left","right"]) fun _ _ _ _ _ _ us hl=>match us,hl with|[_,_,_],_=>rfl
 have yr:=ou.binds (ps:=["self","title","parts"]) fun _ _ _ _ _ _ us hl=>match us,hl with|[_,_,_],_=>rfl
 have w6:=g5.binds (ps:=["self"]) fun _ _ _ _ _ _ us hl=>match us,hl with|[_],_=>rfl
 have yt:=ow.binds (ps:=["self","kinds","rules"]) fun _ _ _ _ _ _ us hl=>match us,hl with|[_,_,_],_=>rfl
 have yu:=iZ.binds (ps:=["self"]) fun _ _ _ _ _ _ us hl=>match us,hl with|[_],_=>rfl
 have uz:=gg.binds (ps:=["self"]) fun _ _ _ _ _ _ us hl=>match us,hl with|[_],_=>rfl
 have pd:=dq g6 ku ky qY
 have pe:=dq g8 kE kJ qZ
 have ph:=dq g7 kz kC rf
 have rE:=dq js ny nz sT
 have pj:=dq jr nu nv rg
 have nF:=dq g8 kE kJ oU
 have nG:=dq g7 kz kC oV
 have pq:=dq js ny nz rh
 have pw:=dq jr nu nv rl
 have nH:=dq g6 ku ky oW
 have nI:=dq g7 kz kC oX
 have pz:=dq js ny nz rm
 have pA:=dq jr nu nv rp
 have nJ:=dq g6 ku ky oY
 have nK:=dq g8 kE kJ oZ
 have pB:=dq js ny nz rq
 have rF:=dq jr nu nv sU
 have pC:=dq g6 ku ky rA
 have pD:=dq g8 kE kJ rB
 have pE:=dq g7 kz kC rC
 have Nu:=mg_of X G M0
 have Ig:=mg_of X G HM
 have Nv:=mg_of X G M1
 have Nx:=mg_of X G M3
 have zD:=mg_of X G HN
 have xa:=mg_of X G Fq
 have xb:=mg_of X G Fs
 have xc:=mg_of X G Ft
 have zE:=mg_of X G HP
 have B3:=mg_of X G Bq
 have B4:=abv X G BE
 have UB:=abv X G Uw
 have QI:=abv X G QG
 have Ov:=abv X G Ux
 have B5:=abv X G BF
 have dj:=abv X G Uy
 have Fu:=abv X G QH
 have fO:=abv X G Nr
 have Ow:=abv X G Uz
 have uR:=abv X G Nt
 have GG:=mg_of X G Np
 have GH:=mg_of X G Nq
 have Ih:=mg_of X G Ic
 have Ii:=mg_of X G Ie
 have B6:=mg_of X G BD
 have tZ:=mg_of X G DX
 refine⟨aca "law" "law" (jz qm) (gp qm) (au qm) .none K6 K7 K8 K5 Fj K9,fun s v=>.of_eq rfl,fun base _ _=>?_⟩
 have cl {x:Str} {k:Nat} {ps:List Str} {sp:Sp} {f:aaB} {fd:aa9} {st:Stmt} (F:bI K x st f fd) (o:a4 l.prog w K mg base dJ k f fd ps sp) (b:GF ps x st):=QB X G F o b
 have Rj {x:Str} {k:Nat} {ps:List Str} {sp:Sp} {f:aaB} {fd:aa9} {st:Stmt} (F:bI K x st f fd) (o:a4 l.prog w K mg base (Ef l.prog w) k f fd ps sp) (b:GF ps x st):=MZ X G F o b
 let cc:Cl:=⟨eD,cI,dh,fm⟩
 have Le:PySem.W.ExcKit K bB:=⟨DY,DZ,D0,La,Lb,D1,D4,jr⟩
 have Ij:PySem.W.ExcKit K bb:=⟨BG,BH,BI,La,Lb,BJ,BK,g6⟩
 have Ik:PySem.W.ExcKit K bc:=⟨BM,BN,BO,La,Lb,BP,BQ,g8⟩
 have Il:PySem.W.ExcKit K bf:=⟨BS,BU,BV,La,Lb,BW,BX,g7⟩
 have Lf:PySem.W.ExcKit K bC:=⟨D6,D7,D8,La,Lb,D9,Ea,js⟩
 let Cs:Nat→aaB:=fun n=>if n=1 then bB else if n=2 then bb else if n=3 then bc else if n=4 then bf else bC
 have xP:∀n,1≤n→n≤5→ab4 K (.ref (Cs n)) (.ref d3)=some true:=fun n h1 h4=>by
  rcases(show n=1∨n=2∨n=3∨n=4∨n=5 by omega) with rfl|rfl|rfl|rfl|rfl
  ·exact x11
  ·exact x21
  ·exact x31
  ·exact x41
  ·exact x51
 have ZZ:∀n,1≤n→n≤5→PySem.W.ExcKit K (Cs n):=fun n h1 h4=>by
  rcases(show n=1∨n=2∨n=3∨n=4∨n=5 by omega) with rfl|rfl|rfl|rfl|rfl
  ·exact Le
  ·exact Ij
  ·exact Ik
  ·exact Il
  ·exact Lf
 have kV:∀n,1≤n→n≤5→abM K (.ref (Cs n)) (.type "ValueError")=some true:=fun n h1 h4=>by
  rcases(show n=1∨n=2∨n=3∨n=4∨n=5 by omega) with rfl|rfl|rfl|rfl|rfl
  ·exact qB D5
  ·exact qB BL
  ·exact qB BR
  ·exact qB BY
  ·exact qB Eb
 have kI:∀n m,1≤n→n≤5→1≤m→m≤5→abM K (.ref (Cs n)) (.ref (Cs m))=some (n == m):=fun n m h1 h4 g1 g4=>by
  rcases(show n=1∨n=2∨n=3∨n=4∨n=5 by omega) with rfl|rfl|rfl|rfl|rfl <;> rcases(show m=1∨m=2∨m=3∨m=4∨m=5 by omega) with rfl|rfl|rfl|rfl|rfl
  ·exact lO
  ·exact pd
  ·exact pe
  ·exact ph
  ·exact rE
  ·exact pj
  ·exact lO
  ·exact nF
  ·exact nG
  ·exact pq
  ·exact pw
  ·exact nH
  ·exact lO
  ·exact nI
  ·exact pz
  ·exact pA
  ·exact nJ
  ·exact nK
  ·exact lO
  ·exact pB
  ·exact rF
  ·exact pC
  ·exact pD
  ·exact pE
  ·exact lO
 have B7:xw K cc.same:=⟨⟨M4,M5,M6,M7⟩,DU,Bv⟩
 have rG:xw K cc.unlike:=⟨⟨HQ,HR,HS,HU⟩,yq,wZ⟩
 have kL:z7 K cc.rule:=⟨⟨Na,Nb,Nc,Nd⟩,Bw,Bx,DV,By,Bz,DW,BA⟩
 have Lg:Pw K cc.book:=⟨⟨Nh,Ni,Nj,Nk⟩,BB,BC⟩
 have B8:=aeK X G BZ
 have yw:∀H:Hp,bT K H kq [tx [112,97,115,115,105,110,103],tx [108,97,115,116,105,110,103]]:=fun H=>.inr ⟨_,_,nY,B1,rfl,rfl,(by show 2≤aaj;decide),rfl,.cons (fY (by decide +kernel)) (.cons (fY (by decide +kernel)) (.nil))⟩
 have Ca:=aeK X G B2
 have yx:∀H:Hp,bT K H kr [tx [116,97,107,101],tx [107,101,101,112],tx [108,111,111,107],tx [112,117,116],tx [116,101,108,108]]:=fun H=>.inr ⟨_,_,nZ,rD,rfl,rfl,(by show 5≤aaj;decide),rfl,.cons (fY (by decide +kernel)) (.cons (fY (by decide +kernel)) (.cons (fY (by decide +kernel)) (.cons (fY (by decide +kernel)) (.cons (fY (by decide +kernel)) (.nil)))))⟩
 have Lh:=aeK X G Lc
 have Im:∀H:Hp,bT K H wF [tx [48],tx [49],tx [50],tx [51],tx [52]]:=fun H=>.inr ⟨_,_,zz,Ld,rfl,rfl,(by show 5≤aaj;decide),rfl,.cons (fY (by decide +kernel)) (.cons (fY (by decide +kernel)) (.cons (fY (by decide +kernel)) (.cons (fY (by decide +kernel)) (.cons (fY (by decide +kernel)) (.nil)))))⟩
 have dt:=cl mV (ui mV.2 GH ⟨Bp,rfl⟩ GG ⟨Bo,rfl⟩ Ih ⟨zu,rfl⟩) fun _ _ _ _ _ _=>b1 fun _=>rfl
 have dO:=cl zA (EY zA.2 dt dj UB Ii ⟨zw,rfl⟩) fun _ _ _ _ _ _=>b1 fun _=>rfl
 have bK:=cl kY (so kY.2 dO GH ⟨Bp,rfl⟩) fun _ _ _ _ _ _=>b1 fun _=>rfl
 have oN:=cl wR (Dq wR.2 dt dj) fun _ _ _ _ _ _=>b2 fun _ _=>rfl
 have vT:=cl DS (Hr DS.2 oN dj) fun _ _ _ _ _ _=>b2 fun _ _=>rfl
 have bO:=cl wU (Ds wU.2 dj) fun _ _ _ _ _ _=>b2 fun _ _=>rfl
 have gR:=cl mW (uj mW.2 bO dO uR) fun _ _ _ _ _ _=>b2 fun _ _=>rfl
 have sq:=cl zB (EZ zB.2 bO bK gR) fun _ _ _ _ _ _=>b2 fun _ _=>rfl
 have gS:=cl mX (um mX.2 sq dj) fun _ _ _ _ _ _=>b1 fun _=>rfl
 have sr:=cl zC (E1 zC.2) fun _ _ _ _ _ _=>b1 fun _=>rfl
 have kb:=cl qG (xB qG.2 sr) fun _ _ _ _ _ _=>b1 fun _=>rfl
 have iO:=cl oa (vS oa.2 vT B6 ⟨qF,rfl⟩) fun _ _ _ _ _ _=>b1 fun _=>rfl
 have mH:=cl tL (As tL.2 bK dj Ov B8 yw Lh Im) fun _ _ _ _ _ _=>b1 fun _=>rfl
 have fg:=cl DT (Ht DT.2) fun _ _ _ _ _ _=>b2 fun _ _=>rfl
 have cD:=cl iy (oR iy.2 dO dj) fun _ _ _ _ _ _=>b1 fun _=>rfl
 have oz:a4 l.prog w K mg base dJ 1 _ _ ["self","left","right"] (jE K):=Ay oq
 have E2:L5 l.prog w K mg base "Same" eD 1 ["self","left","right"] (jE K):=⟨_,_,⟨M8,Br,n0,M9⟩,oz,oy,Nu⟩
 have vU:L5 l.prog w K mg base "Unlike" cI 1 ["self","left","right"] (jE K):=⟨_,_,⟨Ia,wN,n0,Ib⟩,oz,oy,Ig⟩
 have mB:=cl tM (AA (c:=cc) tM.2 cD B7 rG E2 vU) fun _ _ _ _ _ _=>b1 fun _=>rfl
 have mC:=cl tN (AD tN.2 cD) fun _ _ _ _ _ _=>b1 fun _=>rfl
 have j6:=cl qH (xD (c:=cc) qH.2 fg mB) fun _ _ _ _ _ _=>b1 fun _=>rfl
 have j7:=cl qI (xF qI.2 fg mC) fun _ _ _ _ _ _=>b1 fun _=>rfl
 have mD:=cl tO (AF (c:=cc) tO.2 j6 j7 gS) fun _ _ _ _ _ _=>b2 fun _ _=>rfl
 have mG:=cl tP (AG (c:=cc) tP.2 bO bK fg mD tZ ⟨mU,rfl⟩ Ca yx ⟨_,rD,rfl,rfl⟩) fun _ _ _ _ _ _=>b1 fun _=>rfl
 have fE:=cl wV (Dw wV.2 GG ⟨Bo,rfl⟩) fun _ _ _ _ _ _=>b1 fun _=>rfl
 have j8:=cl qJ (xG qJ.2 fE Fu) fun _ _ _ _ _ _=>b1 fun _=>rfl
 have yy:a4 l.prog w K mg base dJ 3 _ _ ["self","title","parts"] (uG K cc):=AK (c:=cc) ou kL j8
 have E6:L5 l.prog w K mg base "Rule" dh 3 ["self","title","parts"] (uG K cc):=⟨_,_,⟨Nf,Bt,yn,Ng⟩,yy,yr,Nv⟩
 have sN:Met l.prog w K mg base dh "calls" 1 ["self"] (z8 K cc):=⟨_,_,kL.cl,⟨ym,wQ,g5.2⟩,xI (c:=cc) g5 kL dj,w6⟩
 have yz:a4 l.prog w K mg base dJ 1 _ _ ["self","kinds","rules"] (uH K cc):=AM (c:=cc) ow Lg
 have E7:L5 l.prog w K mg base "Book" fm 1 ["self","kinds","rules"] (uH K cc):=⟨_,_,⟨Nl,Bu,yo,Nm⟩,yz,yt,Nx⟩
 have mL:=cl tQ (AO (c:=cc) tQ.2 kL iO mG mH E6 tZ ⟨mU,rfl⟩) fun _ _ _ _ _ _=>b3 fun _ _ _=>rfl
 have iQ:=Rj og (vX og.2 QI dj vY zD sx xa) fun _ _ _ _ _ _=>b2 fun _ _=>rfl
 have iR:=Rj oh (v8 oh.2 sJ xb) fun _ _ _ _ _ _=>b2 fun _ _=>rfl
 have j9:=cl qK (xJ (c:=cc) qK.2 kL B7 rG) fun _ _ _ _ _ _=>b1 fun _=>rfl
 have ka:=Rj qL (xK (c:=cc) qL.2 kL sN sO xc) fun _ _ _ _ _ _=>b2 fun _ _=>rfl
 have iS:=Rj oi (wa (c:=cc) oi.2 kL j9 fE wb zE) fun _ _ _ _ _ _=>b1 fun _=>rfl
 have kc:=Rj qM (xN (c:=cc) (Cs:=Cs) qM.2 kL iQ iR ka iS E7) fun _ _ _ _ _ _=>b2 fun _ _=>rfl
 have mR:=Rj tR (AQ (c:=cc) (Cs:=Cs) tR.2 kb mL kc) fun _ _ _ _ _ _=>b1 fun _=>rfl
 have b6:=cl mY (uq mY.2 dj) fun _ _ _ _ _ _=>b2 fun _ _=>rfl
 have a8:=cl wW (Dy wW.2) fun _ _ _ _ _ _=>b2 fun _ _=>rfl
 have cP:=cl qN (xO qN.2 a8 dj fO) fun _ _ _ _ _ _=>b3 fun _ _ _=>rfl
 have df:=cl oj (wj oj.2 cP) fun _ _ _ _ _ _=>b2 fun _ _=>rfl
 have ki:=cl qO (xR qO.2 cP) fun _ _ _ _ _ _=>b2 fun _ _=>rfl
 have kj:=cl qP (xT qP.2 cP) fun _ _ _ _ _ _=>b2 fun _ _=>rfl
 have iw:=cl tS (AU tS.2 dj) fun _ _ _ _ _ _=>b1 fun _=>rfl
 have dv:=cl jn (qv jn.2 dj) fun _ _ _ _ _ _=>b1 fun _=>rfl
 have fh:=cl qQ (xV qQ.2 iw) fun _ _ _ _ _ _=>b1 fun _=>rfl
 have dZ:=cl tT (AW tT.2) fun _ _ _ _ _ _=>b2 fun _ _=>rfl
 have yA:Met l.prog w K mg base eD "word" 2 ["self"] (nj true):=⟨_,_,B7.cl,⟨Bs,yp,iZ.2⟩,AY iZ,yu⟩
 have uA:Met l.prog w K mg base cI "word" 2 ["self"] (nj false):=⟨_,_,rG.cl,⟨wO,uy,gg.2⟩,wo gg,uz⟩
 have XU:∀b,Met l.prog w K mg base (cc.look b) "word" 2 ["self"] (nj b):=fun b=>match b with|true=>yA|false=>uA
 have mO:=cl tU (AZ (c:=cc) tU.2 kL B7 rG dZ fh XU) fun _ _ _ _ _ _=>b1 fun _=>rfl
 have mM:=cl tV (A0 tV.2 Ow) fun _ _ _ _ _ _=>b1 fun _=>rfl
 have mT:=cl tW (A1 (c:=cc) tW.2 Lg mM mO) fun _ _ _ _ _ _=>b1 fun _=>rfl
 have mP:=cl tX (A2 tX.2 a8 dj fO uR) fun _ _ _ _ _ _=>b3 fun _ _ _=>rfl
 have kh:=cl qR (xW qR.2 a8 df dj fO) fun _ _ _ _ _ _=>b2 fun _ _=>rfl
 have iT:=cl om (wt om.2 a8 dj fO) fun _ _ _ _ _ _=>b2 fun _ _=>rfl
 have fi:=cl qS (xY qS.2 a8 mP dj fO) fun _ _ _ _ _ _=>b5 fun _ _ _ _ _=>rfl
 have dH:=cl qT (xZ qT.2) fun _ _ _ _ _ _=>b1 fun _=>rfl
 have kg:=cl wX (DA wX.2 a8 dj) fun _ _ _ _ _ _=>b4 fun _ _ _ _=>rfl
 have mS:=cl tY (A3 tY.2 iT fi dH kg dj fO) fun _ _ _ _ _ _=>b5 fun _ _ _ _ _=>rfl
 have fH:=cl jo (qy jo.2 dv dj Fu) fun _ _ _ _ _ _=>b2 fun _ _=>rfl
 have fG:=cl jq (qA jq.2 Ow Ov) fun _ _ _ _ _ _=>b1 fun _=>rfl
 have gy:=cl qU (x2 qU.2 dj) fun _ _ _ _ _ _=>b2 fun _ _=>rfl
 have gz:=cl qV (x3 qV.2) fun _ _ _ _ _ _=>b2 fun _ _=>rfl
 have oS:=cl wY (DC wY.2 dj) fun _ _ _ _ _ _=>b3 fun _ _ _=>rfl
 have eB:=cl gn (mQ gn.2 oS dj) fun _ _ _ _ _ _=>b4 fun _ _ _ _=>rfl
 have fj:=cl iz (oT iz.2 dj fO uR) fun _ _ _ _ _ _=>b4 fun _ _ _ _=>rfl
 have gY:=cl mZ (uu mZ.2 eB fj dj fO uR) fun _ _ _ _ _ _=>b5 fun _ _ _ _ _=>rfl
 have iU:=cl oo (wx oo.2 gy gz dH dj) fun _ _ _ _ _ _=>b2 fun _ _=>rfl
 have gA:=cl qW (x5 (c:=cc) (Cs:=Cs) qW.2 mR B5 B4 B3 zD xa xb xc zE xP ZZ kI kV) fun _ _ _ _ _ _=>b1 fun _=>rfl
 have km:=cl qX (x6 qX.2 b6 a8 mS gY dj fO) fun _ _ _ _ _ _=>b5 fun _ _ _ _ _=>rfl
 exact Qy (c:=cc) UA b6 kh df ki kj km fG fH iU gA mT Fu dj fO
theorem walk {l:aeb} {q:aaS} {loose:List Str} {XP:(Str→Option aai)→Heap→Prop} {YP:abg→Heap→Prop} {d:DefRec} {K:Params→aae} (hn:l.most=some 63) (RP:d.params.defaults=[])
  (hY:∀(w:abg) (h:Heap),YP w h→(K w.params).In h)
  (F:∀(w:abg) (mg:Str→Option aai) (fa:aaB) (h:Heap),(K w.params).In h→h.Ns aaU mg→mg d.name=some (.ref fa) →
   ∃fd:aa9,(∀(s:aan) (u:aai),BindsTo s fd ⟨[u],[]⟩ [("_law_script",u)])∧∀base:Heap,(K w.params).In base→base.Ns aaU mg→a4 l.prog w (K w.params) mg base dJ 11 fa fd ["_law_script"] (Gg (K w.params))) :
  PySem.W.WalkO q loose XP YP l.row.toRowW d [] (fun f vs=>PySem.call f vs) :=
 L2.LW (n:=63) (k:=11) (x:="_law_script") (CX:=fun _=>dJ) (sp:=fun w=>Gg (K w.params)) hn (by decide) RP ⟨rfl,by decide,by decide,rfl⟩ hY F (fun _ _ a ns hl _ hS=>⟨a,ns,rfl,hS,hl,fun _=>rfl⟩) fun _ _ _ _ _ z=>z
end ft
open PySem PySem.W PyProof.Rows
def PySem.W.Fast.tw12091455652892029122:Nat:=0
def PySem.W.Fast.tw6907933953143230825:Nat:=0
def PySem.W.Fast.tw11260647077642529791:Nat:=0
def PySem.W.Fast.tw17323640720861556702:Nat:=0
def PySem.W.Fast.tw13171920558076718687:Nat:=0
def PySem.W.Fast.tw8329625320094061202:Nat:=0
def PySem.W.Fast.tw17128156043987877384:Nat:=0
def PySem.W.Fast.tw8968454851305838391:Nat:=0
def PySem.W.Fast.tw15698933406482744781:Nat:=0
def PySem.W.Fast.tw15109601739914211497:Nat:=0
def PySem.W.Fast.tw9868244750536836704:Nat:=0
def PySem.W.Fast.tw14087376869900524305:Nat:=0
def PySem.W.Fast.tw17214283033270125158:Nat:=0
def PySem.W.Fast.tw406653444374421937:Nat:=0
def PySem.W.Fast.tw17167108927878702642:Nat:=0
def PySem.W.Fast.tw1486466042091981629:Nat:=0
def PySem.W.Fast.tw495481150691694151:Nat:=0
def PySem.W.Fast.tw11248068708936281953:Nat:=0
def PySem.W.Fast.tw8741769932822214269:Nat:=0
def PySem.W.Fast.tw4477261350110432138:Nat:=0
def PySem.W.Fast.tw15964750760605250959:Nat:=0
def PySem.W.Fast.tw11400177004803408617:Nat:=0
def PySem.W.Fast.tw2272433936856915263:Nat:=0
def PySem.W.Fast.tw1359468941728430238:Nat:=0
def PySem.W.Fast.tw6590226764276037677:Nat:=0
def PySem.W.Fast.tw7799878597891014483:Nat:=0
def PySem.W.Fast.tw11482701961584920512:Nat:=0
def PySem.W.Fast.tw13688612184309249394:Nat:=0
def PySem.W.Fast.tw6503592972766699547:Nat:=0
def PySem.W.Fast.tw5253150319819964328:Nat:=0
def PySem.W.Fast.tw14910577755571904923:Nat:=0
def PySem.W.Fast.tw2114570154572713335:Nat:=0
def PySem.W.Fast.tw10520613502228709292:Nat:=0
def PySem.W.Fast.tw10227144599602278490:Nat:=0
def PySem.W.Fast.tw16841808121775392779:Nat:=0
def PySem.W.Fast.tw2518249989969894013:Nat:=0
def PySem.W.Fast.tw1381584656203185073:Nat:=0
def PySem.W.Fast.tw5193033131915317864:Nat:=0
def PySem.W.Fast.tw5529057491392796206:Nat:=0
def PySem.W.Fast.tw14926163541350014698:Nat:=0
def PySem.W.Fast.tw15501872488019651914:Nat:=0
def PySem.W.Fast.tw5221303379932071766:Nat:=0
def PySem.W.Fast.tw6512229115357305043:Nat:=0
def PySem.W.Fast.tw7736000052526750056:Nat:=0
def PySem.W.Fast.tw6577854239894781335:Nat:=0
def PySem.W.Fast.tw5294726901650163074:Nat:=0
def PySem.W.Fast.tw878206986327786955:Nat:=0
def PySem.W.Fast.tw13731282058788800226:Nat:=0
def PySem.W.Fast.tw10037740348846301677:Nat:=0
def PySem.W.Fast.tw7609437774371046223:Nat:=0
def PySem.W.Fast.tw12189568416888914720:Nat:=0
def PySem.W.Fast.tw15763501002446648737:Nat:=0
def PySem.W.Fast.tw2698023546882570158:Nat:=0
def PySem.W.Fast.tw11273297202872575059:Nat:=0
def PySem.W.Fast.tw15007880587331071280:Nat:=0
def PySem.W.Fast.tw13726315461022381917:Nat:=0
def PySem.W.Fast.tw2922820746556712474:Nat:=0
def PySem.W.Fast.tw17688429703341093289:Nat:=0
def PySem.W.Fast.tw7595358346361143975:Nat:=0
def PySem.W.Fast.tw6013748868432219089:Nat:=0
def PySem.W.Fast.tw9027344200943266979:Nat:=0
def PySem.W.Fast.tw6769901792029680018:Nat:=0
def PySem.W.Fast.tw17511856966891195855:Nat:=0
def PySem.W.Fast.tw17015517682136408689:Nat:=0
def PySem.W.Fast.tw16297808676652269666:Nat:=0
def PySem.W.Fast.tw6343830066610661371:Nat:=0
def PySem.W.Fast.tw18224423897876189318:Nat:=0
def PySem.W.Fast.tw11689927679697612440:Nat:=0
def PySem.W.Fast.tw15092885207515014174:Nat:=0
def PySem.W.Fast.tw13630727906382161482:Nat:=0
def PySem.W.Fast.tw12767723351808860347:Nat:=0
def PySem.W.Fast.tw13897098271131826773:Nat:=0
def PySem.W.Fast.tw6673857239861706835:Nat:=0
def PySem.W.Fast.tw7607634076230431873:Nat:=0
def PySem.W.Fast.tw15230610193659936730:Nat:=0
def PySem.W.Fast.tw10566941396158195219:Nat:=0
def PySem.W.Fast.tw13639063887073077416:Nat:=0
def PySem.W.Fast.tw9458648723224398638:Nat:=0
def PySem.W.Fast.tw11444083399304650663:Nat:=0
def PySem.W.Fast.tw12757938300778504310:Nat:=0
def PySem.W.Fast.tw13918451991690629022:Nat:=0
def PySem.W.Fast.tw8201828248268035282:Nat:=0
def PySem.W.Fast.tw14133004041322194058:Nat:=0
def PySem.W.Fast.tw18285903212902037639:Nat:=0
def PySem.W.Fast.tw14206994559545421285:Nat:=0
def PySem.W.Fast.tw4169514421869238150:Nat:=0
def PySem.W.Fast.tw122101929642726010:Nat:=0
def PySem.W.Fast.tw527152804205362867:Nat:=0
def PySem.W.Fast.tw18109221372478672334:Nat:=0
def PySem.W.Fast.tw13089945043162859036:Nat:=0
def PySem.W.Fast.tw2359399590304403857:Nat:=0
def PySem.W.Fast.tw1302708671464523884:Nat:=0
def PySem.W.Fast.tw8569350009148275742:Nat:=0
def PySem.W.Fast.tw2704471117182861178:Nat:=0
def PySem.W.Fast.tw10477783311423980856:Nat:=0
def PySem.W.Fast.tw10951298941989141853:Nat:=0
def PySem.W.Fast.tw3582216726694494608:Nat:=0
def PySem.W.Fast.tw14310537474875053993:Nat:=0
def PySem.W.Fast.tw12829299216959197951:Nat:=0
def PySem.W.Fast.tw1912950285431528560:Nat:=0
def PySem.W.Fast.tw16678468631430386582:Nat:=0
def PySem.W.Fast.tw7231032715839158692:Nat:=0
def PySem.W.Fast.tw1949397519527910071:Nat:=0
def PySem.W.Fast.tw291671678395113729:Nat:=0
def PySem.W.Fast.tw14807224798036018946:Nat:=0
def PySem.W.Fast.tw6203285911216059541:Nat:=0
def PySem.W.Fast.tw8152577138621092434:Nat:=0
def PySem.W.Fast.tw3810201525345569818:Nat:=0
def PySem.W.Fast.tw6924112353991860064:Nat:=0
def PySem.W.Fast.tw44612558336918101:Nat:=0
def PySem.W.Fast.tw8368990343577474714:Nat:=0
def PySem.W.Fast.tw7402952169460493810:Nat:=0
def PySem.W.Fast.tw10477589897319563392:Nat:=0
def PySem.W.Fast.tw8298383770792875267:Nat:=0
def PySem.W.Fast.tw7426342946559095798:Nat:=0
def PySem.W.Fast.tw5037330977469867269:Nat:=0
def PySem.W.Fast.tw13735890678304883067:Nat:=0
def PySem.W.Fast.tw6271568185213128400:Nat:=0
def PySem.W.Fast.tw12487607482719535019:Nat:=0
def PySem.W.Fast.tw9568391211828000795:Nat:=0
def PySem.W.Fast.tw11197166192644733481:Nat:=0
def PySem.W.Fast.tw4181454702475924996:Nat:=0
def PySem.W.Fast.tw13505519738710498007:Nat:=0
def PySem.W.Fast.tw12792663428870625844:Nat:=0
def PySem.W.Fast.tw6841794407113822275:Nat:=0
def PySem.W.Fast.tw1084608039039840265:Nat:=0
def PySem.W.Fast.tw4690589019271000647:Nat:=0
def PySem.W.Fast.tw18240744514957903705:Nat:=0
def PySem.W.Fast.tw6215852258753455015:Nat:=0
def PySem.W.Fast.tw463657145767592341:Nat:=0
def PySem.W.Fast.tw5554894111225078944:Nat:=0
def PySem.W.Fast.tw14871815458486608862:Nat:=0
def PySem.W.Fast.tw10598675462444507659:Nat:=0
def PySem.W.Fast.tw8738642651623054790:Nat:=0
def PySem.W.Fast.tw10568338370504547533:Nat:=0
def PySem.W.Fast.tw15672257852247491636:Nat:=0
def PySem.W.Fast.tw13690041697185750995:Nat:=0
def PySem.W.Fast.tw8143772731510992679:Nat:=0
def PySem.W.Fast.tw13149580147097480807:Nat:=0
def PySem.W.Fast.tw5611624492528368418:Nat:=0
def PySem.W.Fast.tw14833281525558288039:Nat:=0
def PySem.W.Fast.tw2114444495303783013:Nat:=0
def PySem.W.Fast.tw5020031563926991220:Nat:=0
def PySem.W.Fast.tw8901734424027865755:Nat:=0
def PySem.W.Fast.tw1158420220070248236:Nat:=0
def PySem.W.Fast.tw2744950554797476818:Nat:=0
def PySem.W.Fast.tw9109442356265744704:Nat:=0
def PySem.W.Fast.tw12384912516331764612:Nat:=0
def PySem.W.Fast.tw7314950656247014081:Nat:=0
def PySem.W.Fast.tw16273459938841268768:Nat:=0
def PySem.W.Fast.tw3721583333955439143:Nat:=0
def PySem.W.Fast.tw3238920014772222681:Nat:=0
def PySem.W.Fast.tw1705974967033458977:Nat:=0
def PySem.W.Fast.tw8490504932289457336:Nat:=0
def PySem.W.Fast.tw18058358505340456008:Nat:=0
def PySem.W.Fast.tw11684695971843899319:Nat:=0
def PySem.W.Fast.tw15831491553040899589:Nat:=0
def PySem.W.Fast.tw10252803530379033573:Nat:=0
def PySem.W.Fast.tw5730272023582160558:Nat:=0
def PySem.W.Fast.tw65283291840430993:Nat:=0
def PySem.W.Fast.tw3423709596826049154:Nat:=0
def PySem.W.Fast.tw12989521067795519981:Nat:=0
def PySem.W.Fast.tw8742286606290503537:Nat:=0
def PySem.W.Fast.tw12704454979717285116:Nat:=0
def PySem.W.Fast.tw14432048858578456461:Nat:=0
def PySem.W.Fast.tw17945105230760793763:Nat:=0
def PySem.W.Fast.tw13673885584290082176:Nat:=0
def PySem.W.Fast.tw9641712766475597517:Nat:=0
def PySem.W.Fast.tw777628197130233272:Nat:=0
def PySem.W.Fast.tw10994317237678629063:Nat:=0
def PySem.W.Fast.tw12376393620096915383:Nat:=0
def PySem.W.Fast.tw838637307325683291:Nat:=0
def PySem.W.Fast.tw5643173395151676404:Nat:=0
def PySem.W.Fast.tw10154549319186490055:Nat:=0
def PySem.W.Fast.tw8135522832969553814:Nat:=0
def PySem.W.Fast.tw13255359696317397534:Nat:=0
def PySem.W.Fast.tw14294681871536036307:Nat:=0
def PySem.W.Fast.tw18364624630898169243:Nat:=0
def PySem.W.Fast.tw2372151986730329331:Nat:=0
def PySem.W.Fast.tw8501313445803053049:Nat:=0
def PySem.W.Fast.tw11620028340104351044:Nat:=0
def PySem.W.Fast.tw4926488371404667357:Nat:=0
def PySem.W.Fast.tw14384391776833130157:Nat:=0
def PySem.W.Fast.tw1667220188453021890:Nat:=0
def PySem.W.Fast.tw14350950106627143904:Nat:=0
def PySem.W.Fast.tw6260851013915215616:Nat:=0
def PySem.W.Fast.tw508353513316843536:Nat:=0
def PySem.W.Fast.tw10850890753302162880:Nat:=0
def PySem.W.Fast.tw6494184686972788737:Nat:=0
def PySem.W.Fast.tw10057277695126275442:Nat:=0
def PySem.W.Fast.tw18391298664791680996:Nat:=0
def PySem.W.Fast.tw6855465188155505546:Nat:=0
def PySem.W.Fast.tw5355454211123769117:Nat:=0
def PySem.W.Fast.tw7470060711886751340:Nat:=0
def PySem.W.Fast.tw3851201567020692885:Nat:=0
def PySem.W.Fast.tw14442057700496072753:Nat:=0
def PySem.W.Fast.tw15285587337831234938:Nat:=0
def PySem.W.Fast.tw4947604899299456406:Nat:=0
def PySem.W.Fast.tw174188311234732683:Nat:=0
def PySem.W.Fast.tw11588861696983913728:Nat:=0
def PySem.W.Fast.tw10154974326320633975:Nat:=0
def PySem.W.Fast.tw10913570245533351448:Nat:=0
def PySem.W.Fast.tw7918841968634059031:Nat:=0
def PySem.W.Fast.tw16733443416770270199:Nat:=0
def PySem.W.Fast.tw16326632430417141331:Nat:=0
def PySem.W.Fast.tw4852909419278697120:Nat:=0
def PySem.W.Fast.tw4501860384422007705:Nat:=0
def PySem.W.Fast.tw15038598117636099985:Nat:=0
def PySem.W.Fast.tw13753491010988778380:Nat:=0
def PySem.W.Fast.tw1983560940461644508:Nat:=0
def PySem.W.Fast.tw5232190759654396455:Nat:=0
def PySem.W.Fast.tw14694039073371467875:Nat:=0
def PySem.W.Fast.tw13745530885960994300:Nat:=0
def PySem.W.Fast.tw4615768309491845681:Nat:=0
def PySem.W.Fast.tw14899923373194222523:Nat:=0
def PySem.W.Fast.tw6962504669693748194:Nat:=0
def PySem.W.Fast.tw7799788526702180615:Nat:=0
def PySem.W.Fast.tw13580995029576583102:Nat:=0
def PySem.W.Fast.tw5915549086697300325:Nat:=0
def PySem.W.Fast.tw16894918933978665733:Nat:=0
def PySem.W.Fast.tw4706797844507437030:Nat:=0
def PySem.W.Fast.tw17906643281106957801:Nat:=0
def PySem.W.Fast.tw5893164898582832771:Nat:=0
def PySem.W.Fast.tw15984130717256830272:Nat:=0
def PySem.W.Fast.tw13917040953309439363:Nat:=0
def PySem.W.Fast.tw9504037881792055273:Nat:=0
def PySem.W.Fast.tw2009989887835549876:Nat:=0
def PySem.W.Fast.tw10175484436184922355:Nat:=0
def PySem.W.Fast.tw4990221868562591378:Nat:=0
def PySem.W.Fast.tw12140123124964519685:Nat:=0
def PySem.W.Fast.tw8351309940885588629:Nat:=0
def PySem.W.Fast.tw9702189181314779552:Nat:=0
def PySem.W.Fast.tw2942835206247101946:Nat:=0
def PySem.W.Fast.tw14755013585549621622:Nat:=0
def PySem.W.Fast.tw5079643823189116135:Nat:=0
def PySem.W.Fast.tw17081373003719998299:Nat:=0
def PySem.W.Fast.tw5016800616382995757:Nat:=0
def PySem.W.Fast.tw1939388925616222394:Nat:=0
def PySem.W.Fast.tw15401580883825484694:Nat:=0
def PySem.W.Fast.tw9087607024882643269:Nat:=0
def PySem.W.Fast.tw11990258776742086653:Nat:=0
def PySem.W.Fast.tw13959123738538969855:Nat:=0
def PySem.W.Fast.tw5338880030508836553:Nat:=0
def PySem.W.Fast.tw6149033106202150033:Nat:=0
def PySem.W.Fast.tw3343530915838058019:Nat:=0
def PySem.W.Fast.tw10746401776489472363:Nat:=0
def PySem.W.Fast.tw222013620323083951:Nat:=0
def PySem.W.Fast.tw16499892550771245098:Nat:=0
def PySem.W.Fast.tw8124669626273130266:Nat:=0
def PySem.W.Fast.tw7703125100388452036:Nat:=0
def PySem.W.Fast.tw2593945476689750934:Nat:=0
def PySem.W.Fast.tw7841190952194966068:Nat:=0
def PySem.W.Fast.tw15469795550628813787:Nat:=0
def PySem.W.Fast.tw10478663567339529075:Nat:=0
def PySem.W.Fast.tw12942528172531340731:Nat:=0
def PySem.W.Fast.tw12194384622443274286:Nat:=0
def PySem.W.Fast.tw1410222342726323905:Nat:=0
def PySem.W.Fast.tw18231987491765170862:Nat:=0
def PySem.W.Fast.tw11358719164350256412:Nat:=0
def PySem.W.Fast.tw6755326746661558980:Nat:=0
def PySem.W.Fast.tw13700978634311519366:Nat:=0
def PySem.W.Fast.tw6634258732993448830:Nat:=0
def PySem.W.Fast.tw11726360574100376948:Nat:=0
def PySem.W.Fast.tw7598567606894198984:Nat:=0
def PySem.W.Fast.tw17709105305406926495:Nat:=0
def PySem.W.Fast.tw9207818016148275773:Nat:=0
def PySem.W.Fast.tw2359598376803639476:Nat:=0
def PySem.W.Fast.tw17924110529890452963:Nat:=0
def PySem.W.Fast.tw1132193996834033970:Nat:=0
def PySem.W.Fast.tw3441472661242713551:Nat:=0
def PySem.W.Fast.tw2995427586896117217:Nat:=0
def PySem.W.Fast.tw6177989799507446639:Nat:=0
def PySem.W.Fast.tw12189115582778311171:Nat:=0
def PySem.W.Fast.tw7307505932151245214:Nat:=0
def PySem.W.Fast.tw14985470725396400769:Nat:=0
def PySem.W.Fast.tw12377343249521400994:Nat:=0
def PySem.W.Fast.tw9087728375577158641:Nat:=0
def PySem.W.Fast.tw14486249048731369818:Nat:=0
def PySem.W.Fast.tw6761220187247966639:Nat:=0
def PySem.W.Fast.tw14744713143527684472:Nat:=0
def PySem.W.Fast.tw16969562007780959362:Nat:=0
def PySem.W.Fast.tw8368573282477919354:Nat:=0
def PySem.W.Fast.tw15983456948039206622:Nat:=0
def PySem.W.Fast.tw13023165661350990345:Nat:=0
def PySem.W.Fast.tw12391555793310705237:Nat:=0
def PySem.W.Fast.tw16470522353085467438:Nat:=0
def PySem.W.Fast.tw13551988429455953323:Nat:=0
def PySem.W.Fast.tw11941633156026394688:Nat:=0
def PySem.W.Fast.tw6766825282012957699:Nat:=0
def PySem.W.Fast.tw17502854122434029773:Nat:=0
def PySem.W.Fast.tw3890087288969969324:Nat:=0
def PySem.W.Fast.tw8074459313566905835:Nat:=0
def PySem.W.Fast.tw16653380877308769198:Nat:=0
def PySem.W.Fast.tw5171375267181761236:Nat:=0
def PySem.W.Fast.tw13635065275893217943:Nat:=0
def PySem.W.Fast.tw2669572800550154763:Nat:=0
def PySem.W.Fast.tw13115008697732282222:Nat:=0
def PySem.W.Fast.tw15388112431426667061:Nat:=0
def PySem.W.Fast.tw6264399123338668157:Nat:=0
def PySem.W.Fast.tw7439007821219518035:Nat:=0
def PySem.W.Fast.tw7952058490125405793:Nat:=0
def PySem.W.Fast.tw4336737543681030888:Nat:=0
def PySem.W.Fast.tw11177431550908630520:Nat:=0
def PySem.W.Fast.tw12694363522071630996:Nat:=0
def PySem.W.Fast.tw15911153898491378274:Nat:=0
def PySem.W.Fast.tw15921484831916480028:Nat:=0
def PySem.W.Fast.tw8365105879561776758:Nat:=0
def PySem.W.Fast.tw75776531593536750:Nat:=0
def PySem.W.Fast.tw7105263230517191371:Nat:=0
def PySem.W.Fast.tw16205028319136235562:Nat:=0
def PySem.W.Fast.tw11240123319851154486:Nat:=0
def PySem.W.Fast.tw6419843973079297941:Nat:=0
def PySem.W.Fast.tw11557013236348904533:Nat:=0
def PySem.W.Fast.tw1708273043069923082:Nat:=0
def PySem.W.Fast.tw12839064361224447559:Nat:=0
def PySem.W.Fast.tw9525284877219019911:Nat:=0
def PySem.W.Fast.tw11718545265677005899:Nat:=0
def PySem.W.Fast.tw3633148190667481066:Nat:=0
def PySem.W.Fast.tw10736074925566191396:Nat:=0
def PySem.W.Fast.tw16642973987902473794:Nat:=0
def PySem.W.Fast.tw7331563998080101314:Nat:=0
def PySem.W.Fast.tw12451153728241297934:Nat:=0
def PySem.W.Fast.tw7805461723593933344:Nat:=0
def PySem.W.Fast.tw4241899526169053772:Nat:=0
def PySem.W.Fast.tw539739539525609628:Nat:=0
def PySem.W.Fast.tw16772890946038992880:Nat:=0
def PySem.W.Fast.tw10066701458540123545:Nat:=0
def PySem.W.Fast.tw16796762523192010905:Nat:=0
def PySem.W.Fast.tw1337040107783845972:Nat:=0
def PySem.W.Fast.tw9400320079393024863:Nat:=0
def PySem.W.Fast.tw192761197958932656:Nat:=0
def PySem.W.Fast.tw2922694991735494065:Nat:=0
def PySem.W.Fast.tw16414569859634148440:Nat:=0
def PySem.W.Fast.tw6395475461558255318:Nat:=0
def PySem.W.Fast.tw5620708009622513420:Nat:=0
def PySem.W.Fast.tw9968171077970171572:Nat:=0
def PySem.W.Fast.tw8023624210505441560:Nat:=0
def PySem.W.Fast.tw16158701237986116230:Nat:=0
def PySem.W.Fast.tw16558466497602802895:Nat:=0
def PySem.W.Fast.tw9495256753009435508:Nat:=0
def PySem.W.Fast.tw2979156486158581655:Nat:=0
def PySem.W.Fast.tw7743260487695774918:Nat:=0
def PySem.W.Fast.tw17584293360857039138:Nat:=0
def PySem.W.Fast.tw6526891272538020789:Nat:=0
def PySem.W.Fast.tw9330708334289657663:Nat:=0
def PySem.W.Fast.tw12230746208877602911:Nat:=0
def PySem.W.Fast.tw2649841275532584719:Nat:=0
def PySem.W.Fast.tw4811402436502478091:Nat:=0
def PySem.W.Fast.tw4339647521376748738:Nat:=0
def PySem.W.Fast.tw5352424491118576242:Nat:=0
def PySem.W.Fast.tw3087085077791131706:Nat:=0
def PySem.W.Fast.tw192490654071565314:Nat:=0
def PySem.W.Fast.tw11837493607521001586:Nat:=0
def PySem.W.Fast.tw4144099007384649617:Nat:=0
def PySem.W.Fast.tw11411139293293873673:Nat:=0
def PySem.W.Fast.tw10390199696696704425:Nat:=0
def PySem.W.Fast.tw1764684788061022053:Nat:=0
def PySem.W.Fast.tw15454709442844392811:Nat:=0
def PySem.W.Fast.tw4003606559789217103:Nat:=0
def PySem.W.Fast.tw7652000821546859293:Nat:=0
def PySem.W.Fast.tw11961135964679286772:Nat:=0
def PySem.W.Fast.tw11378972398660255951:Nat:=0
def PySem.W.Fast.tw4278241757222967547:Nat:=0
def PySem.W.Fast.tw4463262637619702692:Nat:=0
def PySem.W.Fast.tw10949004886462891671:Nat:=0
def PySem.W.Fast.tw2806624298741157635:Nat:=0
def PySem.W.Fast.tw17012722091707032183:Nat:=0
def PySem.W.Fast.tw11432886431594244680:Nat:=0
def PySem.W.Fast.tw9627138879318729393:Nat:=0
def PySem.W.Fast.tw5880847785910554540:Nat:=0
def PySem.W.Fast.tw17696956610094591242:Nat:=0
def PySem.W.Fast.tw18091888519022660171:Nat:=0
def PySem.W.Fast.tw3800450914369922871:Nat:=0
def PySem.W.Fast.tw10960679456977972993:Nat:=0
def PySem.W.Fast.tw5456730304320628381:Nat:=0
def PySem.W.Fast.tw10760858796323383216:Nat:=0
def PySem.W.Fast.tw5846471148858448445:Nat:=0
def PySem.W.Fast.tw8459887813894277475:Nat:=0
def PySem.W.Fast.tw6929132055635863895:Nat:=0
def PySem.W.Fast.tw6511999684730486071:Nat:=0
def PySem.W.Fast.tw8638627297787445889:Nat:=0
def PySem.W.Fast.tw12449971281432676989:Nat:=0
def PySem.W.Fast.tw9181472693502137718:Nat:=0
def PySem.W.Fast.tw2817682254772001090:Nat:=0
def PySem.W.Fast.tw1947645980254034079:Nat:=0
def PySem.W.Fast.tw3829038395126395638:Nat:=0
def PySem.W.Fast.tw11752681341972787833:Nat:=0
def PySem.W.Fast.tw12487728197679611466:Nat:=0
def PySem.W.Fast.tw3090328976191206520:Nat:=0
def PySem.W.Fast.tw18105534569431584972:Nat:=0
def PySem.W.Fast.tw12862716866959704585:Nat:=0
def PySem.W.Fast.tw16872456129068579944:Nat:=0
def PySem.W.Fast.tw303205371641503138:Nat:=0
def PySem.W.Fast.tw13377739114694966756:Nat:=0
def PySem.W.Fast.tw8116018682633389589:Nat:=0
def PySem.W.Fast.tw5919028235646330469:Nat:=0
def PySem.W.Fast.tw8969022594691101654:Nat:=0
def PySem.W.Fast.tw11965101955378904322:Nat:=0
def PySem.W.Fast.tw17014449164983343473:Nat:=0
def PySem.W.Fast.tw9210960936904084563:Nat:=0
def PySem.W.Fast.tw94550591200835369:Nat:=0
def PySem.W.Fast.tw4432670849341158045:Nat:=0
def PySem.W.Fast.tw6588464222123494292:Nat:=0
def PySem.W.Fast.tw2660313385536534361:Nat:=0
def PySem.W.Fast.tw11400556028524355142:Nat:=0
def PySem.W.Fast.tw9012098893591905327:Nat:=0
def PySem.W.Fast.tw6314620043143606402:Nat:=0
def PySem.W.Fast.tw5246235760110414529:Nat:=0
def PySem.W.Fast.tw13572333549322826815:Nat:=0
def PySem.W.Fast.tw17085843880133211823:Nat:=0
def PySem.W.Fast.tw17169048806279117399:Nat:=0
def PySem.W.Fast.tw9283127569619740559:Nat:=0
def PySem.W.Fast.tw9171542964383876875:Nat:=0
def PySem.W.Fast.tw4081728146376806121:Nat:=0
def PySem.W.Fast.tw14360580381960797442:Nat:=0
def PySem.W.Fast.tw13875117114409592446:Nat:=0
def PySem.W.Fast.tw4516605259699480423:Nat:=0
def PySem.W.Fast.tw10337792591631365186:Nat:=0
def PySem.W.Fast.tw16700073579056484147:Nat:=0
def PySem.W.Fast.tw309291548963185120:Nat:=0
def PySem.W.Fast.tw625412970547323076:Nat:=0
def PySem.W.Fast.tw14903566125327631717:Nat:=0
def PySem.W.Fast.tw5120981546596962762:Nat:=0
def PySem.W.Fast.tw16905766381312197413:Nat:=0
def PySem.W.Fast.tw2670716205799634711:Nat:=0
def PySem.W.Fast.tw10237173687331918893:Nat:=0
def PySem.W.Fast.tw1585399548885159815:Nat:=0
def PySem.W.Fast.tw13865622045179887320:Nat:=0
def PySem.W.Fast.tw3353841871472153027:Nat:=0
def PySem.W.Fast.tw6758550225938487388:Nat:=0
def PySem.W.Fast.tw17327717500882870555:Nat:=0
def PySem.W.Fast.tw16807399093817759141:Nat:=0
def PySem.W.Fast.tw1836898293056750711:Nat:=0
def PySem.W.Fast.tw8739988380376750122:Nat:=0
def PySem.W.Fast.tw4474626363728129107:Nat:=0
def PySem.W.Fast.tw1446228642684606073:Nat:=0
def PySem.W.Fast.tw2303093011417238594:Nat:=0
def PySem.W.Fast.tw11758662846802200785:Nat:=0
def PySem.W.Fast.tw2448975540636799327:Nat:=0
def PySem.W.Fast.tw5465711445890994578:Nat:=0
def PySem.W.Fast.tw2304212692054887006:Nat:=0
def PySem.W.Fast.tw15429987993730472519:Nat:=0
def PySem.W.Fast.tw17948295352722477206:Nat:=0
def PySem.W.Fast.tw5686797465398787860:Nat:=0
def PySem.W.Fast.tw13977654263891091818:Nat:=0
def PySem.W.Fast.tw84857974351261718:Nat:=0
def PySem.W.Fast.tw9604531506012970563:Nat:=0
def PySem.W.Fast.tw17415939690517779012:Nat:=0
def PySem.W.Fast.tw14282468374868046076:Nat:=0
def PySem.W.Fast.tw6187086174868713372:Nat:=0
def PySem.W.Fast.tw9713240971045166535:Nat:=0
def PySem.W.Fast.tw15046691722953331364:Nat:=0
def PySem.W.Fast.tw18029663449110931767:Nat:=0
def PySem.W.Fast.tw10705397584216283594:Nat:=0
def PySem.W.Fast.tw2549224312197921328:Nat:=0
def PySem.W.Fast.tw10377385390141424774:Nat:=0
def PySem.W.Fast.tw17697254826759461543:Nat:=0
def PySem.W.Fast.tw5927500043304602955:Nat:=0
def PySem.W.Fast.tw2086539211360373589:Nat:=0
def PySem.W.Fast.tw835695019074810156:Nat:=0
def PySem.W.Fast.tw5954183360448952299:Nat:=0
def PySem.W.Fast.tw9140850871326641538:Nat:=0
def PySem.W.Fast.tw8182148466352966706:Nat:=0
def PySem.W.Fast.tw2585699943862034013:Nat:=0
def PySem.W.Fast.tw1095547177491783936:Nat:=0
def PySem.W.Fast.tw10965705532136629372:Nat:=0
def PySem.W.Fast.tw13877025873145245535:Nat:=0
def PySem.W.Fast.tw3371839529699555606:Nat:=0
def PySem.W.Fast.tw9243207890509241350:Nat:=0
def PySem.W.Fast.tw6800327317231010144:Nat:=0
def PySem.W.Fast.tw17241246917701837525:Nat:=0
def PySem.W.Fast.tw7417661294129416983:Nat:=0
def PySem.W.Fast.tw6549779550139564359:Nat:=0
def PySem.W.Fast.tw2393751790466651652:Nat:=0
def PySem.W.Fast.tw6463525906385967606:Nat:=0
def PySem.W.Fast.tw2602758008575206126:Nat:=0
def PySem.W.Fast.tw744148019004979591:Nat:=0
def PySem.W.Fast.tw16020602565110813053:Nat:=0
def PySem.W.Fast.tw10839126342840691428:Nat:=0
def PySem.W.Fast.tw2418571758449852965:Nat:=0
def PySem.W.Fast.tw14418191355298044760:Nat:=0
def PySem.W.Fast.tw16580536739602730192:Nat:=0
def PySem.W.Fast.tw3411112115483203785:Nat:=0
def PySem.W.Fast.tw17761287266072021909:Nat:=0
def PySem.W.Fast.tw13422928577481407907:Nat:=0
def PySem.W.Fast.tw7696095676999146638:Nat:=0
def PySem.W.Fast.tw16220508160501380090:Nat:=0
def PySem.W.Fast.tw8813810862284609601:Nat:=0
def PySem.W.Fast.tw9601548928188730971:Nat:=0
def PySem.W.Fast.tw15369198762833875101:Nat:=0
def PySem.W.Fast.tw12678715633690078346:Nat:=0
def PySem.W.Fast.tw9113513491766306070:Nat:=0
def PySem.W.Fast.tw2093276204394746292:Nat:=0
def PySem.W.Fast.tw9397705481211439329:Nat:=0
def PySem.W.Fast.tw15256362683774661411:Nat:=0
def PySem.W.Fast.tw15530190782110059949:Nat:=0
def PySem.W.Fast.tw17621182136645496549:Nat:=0
def PySem.W.Fast.tw13223058046939363974:Nat:=0
def PySem.W.Fast.tw12056345057559946977:Nat:=0
def PySem.W.Fast.tw8405302635261817549:Nat:=0
def PySem.W.Fast.tw3254684852017811111:Nat:=0
def PySem.W.Fast.tw17125122848142866511:Nat:=0
def PySem.W.Fast.tw18177017556046392112:Nat:=0
def PySem.W.Fast.tw16734494245051888379:Nat:=0
def PySem.W.Fast.tw4516306871900329519:Nat:=0
def PySem.W.Fast.tw1808317391957316242:Nat:=0
def PySem.W.Fast.tw5182476518840204928:Nat:=0
def PySem.W.Fast.tw3026302261496360330:Nat:=0
def PySem.W.Fast.tw12158342063928115085:Nat:=0
def PySem.W.Fast.tw12449530928886272697:Nat:=0
def PySem.W.Fast.tw8185907771497293404:Nat:=0
def PySem.W.Fast.tw6030706850424547653:Nat:=0
def PySem.W.Fast.tw17171743522848060635:Nat:=0
def PySem.W.Fast.tw15419787791387020281:Nat:=0
def PySem.W.Fast.tw17959421353175645013:Nat:=0
def PySem.W.Fast.tw10577932050136509577:Nat:=0
def PySem.W.Fast.tw10699096517373067650:Nat:=0
def PySem.W.Fast.tw977165694557789992:Nat:=0
def PySem.W.Fast.tw10624903193333665732:Nat:=0
def PySem.W.Fast.tw13648312313210792777:Nat:=0
def PySem.W.Fast.tw4055028007053239934:Nat:=0
def PySem.W.Fast.tw5231999299776137985:Nat:=0
def PySem.W.Fast.tw7009684645730143763:Nat:=0
def PySem.W.Fast.tw13653254397661119264:Nat:=0
def PySem.W.Fast.tw2338136953573165798:Nat:=0
def PySem.W.Fast.tw3668072599194621478:Nat:=0
def PySem.W.Fast.tw12605031445587922594:Nat:=0
def PySem.W.Fast.tw15485740019556813876:Nat:=0
def PySem.W.Fast.tw3049507816602940367:Nat:=0
def PySem.W.Fast.tw3047527414201748269:Nat:=0
def PySem.W.Fast.tw12127027283627873867:Nat:=0
def PySem.W.Fast.tw3439340195102878738:Nat:=0
def PySem.W.Fast.tw10143973718095686891:Nat:=0
def PySem.W.Fast.tw12953923009249030405:Nat:=0
def PySem.W.Fast.tw18304268224415118425:Nat:=0
def PySem.W.Fast.tw8177054388872891568:Nat:=0
def PySem.W.Fast.tw13193603012096365602:Nat:=0
def PySem.W.Fast.tw11658109959852464213:Nat:=0
def PySem.W.Fast.tw5469447801843179448:Nat:=0
def PySem.W.Fast.tw10665602299834033723:Nat:=0
def PySem.W.Fast.tw17888696897339738242:Nat:=0
def PySem.W.Fast.tw8044643385343583232:Nat:=0
def PySem.W.Fast.tw12297021306929093778:Nat:=0
def PySem.W.Fast.tw17759773347945622161:Nat:=0
def PySem.W.Fast.tw17441563494889966802:Nat:=0
def PySem.W.Fast.tw10607454917710458704:Nat:=0
def PySem.W.Fast.tw14606165044998822238:Nat:=0
def PySem.W.Fast.tw12390414812751489713:Nat:=0
def PySem.W.Fast.tw14766486730519084378:Nat:=0
def PySem.W.Fast.tw14811897089700543722:Nat:=0
def PySem.W.Fast.tw1498371758333735923:Nat:=0
def PySem.W.Fast.tw18288313447323985488:Nat:=0
def PySem.W.Fast.tw11639270665949007492:Nat:=0
def PySem.W.Fast.tw12028545513217248223:Nat:=0
def PySem.W.Fast.tw13196274191637239190:Nat:=0
def PySem.W.Fast.tw14839537203990567143:Nat:=0
def PySem.W.Fast.tw1012692700257382661:Nat:=0
def PySem.W.Fast.tw193344995527355547:Nat:=0
def PySem.W.Fast.tw13767145603815823743:Nat:=0
def PySem.W.Fast.tw1505466799897278392:Nat:=0
def PySem.W.Fast.tw11016520376948494902:Nat:=0
def PySem.W.Fast.tw15772867987214963004:Nat:=0
def PySem.W.Fast.tw15163675759290954494:Nat:=0
def PySem.W.Fast.tw17551389301426655699:Nat:=0
def PySem.W.Fast.tw2095144088889750828:Nat:=0
def PySem.W.Fast.tw4906469383560418818:Nat:=0
def PySem.W.Fast.tw2192836087889572010:Nat:=0
def PySem.W.Fast.tw7252482776082315578:Nat:=0
def PySem.W.Fast.tw8638342254766036319:Nat:=0
def PySem.W.Fast.tw2633322624038984971:Nat:=0
def PySem.W.Fast.tw13137670812515676318:Nat:=0
def PySem.W.Fast.tw3191394142373990080:Nat:=0
def PySem.W.Fast.tw2143239949334832284:Nat:=0
def PySem.W.Fast.tw16119983620266610107:Nat:=0
def PySem.W.Fast.tw13071639462625344629:Nat:=0
def PySem.W.Fast.tw8701581826732473195:Nat:=0
def PySem.W.Fast.tw2950955296090882524:Nat:=0
def PySem.W.Fast.tw2373460818183863700:Nat:=0
def PySem.W.Fast.tw13407177687300994570:Nat:=0
def PySem.W.Fast.tw1208751855626294175:Nat:=0
def PySem.W.Fast.tw18343707926358623265:Nat:=0
def PySem.W.Fast.tw6035630378479168482:Nat:=0
def PySem.W.Fast.tw18167915126902794238:Nat:=0
def PySem.W.Fast.tw5964801637950971457:Nat:=0
def PySem.W.Fast.tw15021044948031696343:Nat:=0
def PySem.W.Fast.tw2807230388970153269:Nat:=0
def PySem.W.Fast.tw2662019212352872295:Nat:=0
def PySem.W.Fast.tw16010907351587112724:Nat:=0
def PySem.W.Fast.tw14402334840084208654:Nat:=0
def PySem.W.Fast.tw6294040556623705606:Nat:=0
def PySem.W.Fast.tw2475738123240607208:Nat:=0
def PySem.W.Fast.tw13169975904706381468:Nat:=0
def PySem.W.Fast.tw11412262549523343074:Nat:=0
def PySem.W.Fast.tw4330121060899279752:Nat:=0
def PySem.W.Fast.tw4881028977348918344:Nat:=0
def PySem.W.Fast.tw4715127906560785443:Nat:=0
def PySem.W.Fast.tw9951937824427646370:Nat:=0
def PySem.W.Fast.tw10554792881304172140:Nat:=0
def PySem.W.Fast.tw5535244093227298713:Nat:=0
def PySem.W.Fast.tw299382760572907835:Nat:=0
def PySem.W.Fast.tw1923015613299117738:Nat:=0
def PySem.W.Fast.tw6808266524407794316:Nat:=0
def PySem.W.Fast.tw3236404805996768586:Nat:=0
def PySem.W.Fast.tw15435764138373970395:Nat:=0
def PySem.W.Fast.tw9774874257502454373:Nat:=0
def PySem.W.Fast.tw3280773895598026658:Nat:=0
def PySem.W.Fast.tw5876019271213601743:Nat:=0
def PySem.W.Fast.tw7968197984254013365:Nat:=0
def PySem.W.Fast.tw18001587426005329948:Nat:=0
def PySem.W.Fast.tw3596917125901725087:Nat:=0
def PySem.W.Fast.tw4187032738880883580:Nat:=0
def PySem.W.Fast.tw12306617729548664591:Nat:=0
def PySem.W.Fast.tw4130890860862136766:Nat:=0
def PySem.W.Fast.tw537051634457035763:Nat:=0
def PySem.W.Fast.tw4534552283316014037:Nat:=0
def PySem.W.Fast.tw13115384058832921309:Nat:=0
def PySem.W.Fast.tw7228596318371913430:Nat:=0
def PySem.W.Fast.tw12068003104636441202:Nat:=0
def PySem.W.Fast.tw8388859093441592808:Nat:=0
def PySem.W.Fast.tw224651911008407412:Nat:=0
def PySem.W.Fast.tw3949908696795941966:Nat:=0
def PySem.W.Fast.tw9975338664997986341:Nat:=0
def PySem.W.Fast.tw17473273743553596460:Nat:=0
def PySem.W.Fast.tw14380198454163366345:Nat:=0
def PySem.W.Fast.tw4783215817283109529:Nat:=0
def PySem.W.Fast.tw15536068273887197532:Nat:=0
def PySem.W.Fast.tw11438355226602197187:Nat:=0
def PySem.W.Fast.tw14123916710572716617:Nat:=0
def PySem.W.Fast.tw2944536318132160721:Nat:=0
def PySem.W.Fast.tw3072057276139914471:Nat:=0
def PySem.W.Fast.tw13747829863092250844:Nat:=0
def PySem.W.Fast.tw8317561615002749877:Nat:=0
def PySem.W.Fast.tw21090590398192241:Nat:=0
def PySem.W.Fast.tw3561249177793645336:Nat:=0
def PySem.W.Fast.tw18298937824019434525:Nat:=0
def PySem.W.Fast.tw3462988130521480961:Nat:=0
def PySem.W.Fast.tw3719611681943894297:Nat:=0
def PySem.W.Fast.tw18246158844560868696:Nat:=0
def PySem.W.Fast.tw9018382511810739091:Nat:=0
def PySem.W.Fast.tw2978479849234664492:Nat:=0
def PySem.W.Fast.tw3217274859338256565:Nat:=0
set_option maxRecDepth 100000 in
set_option maxHeartbeats 0 in
theorem PySem.Challenge.cw_poolrules_k13_rules_refused_holds : PySem.Challenge.rw_poolrules_k13_rules_refused.Holds := by
 w_on;o_law;k_head;(case hw=>w_witness2)
 k_fill
 refine ft.walk (l:=PySem.Challenge.rw_poolrules_k13_rules_refused) rfl rfl (fun w h Y=>PySem.W.kIn_of Y) ?F
 case F =>
  intro w mg fa h KX G hmg
  refine' ft.all_mk KX G hmg ..
  all_goals first|k_is|exact L2.EA (by k_is) (by k_is) (by k_is)|exact⟨by k_is,L2.EA (by k_is) (by k_is) (by k_is)⟩|k_exc|kts_exm|skip
