import PyProof.Rows.All
import Wide.All
import OpenK.AllK
import Wide.FinOn
import Lean
import PyProof.EqAt
import PyProof.EqKinds
import PyProof.TupleCall
import KE.KIntText
import KE.KDictList
import KE.KDictOf
import PyProof.AttrMissHeap
import PyProof.DictUpdate
import PyProof.ToksMono
import PyProof.NeKinds
import PyProof.EnumFor
import PyProof.EnumStmt
import PyProof.EnumMake
import KE.KRevIter
import PyProof.StrOps2
import PyProof.ZipIter
import PyProof.SumWalkG
import KE.KMinKey
import KE.KTryMore
import KE.KSortAsk
import KE.KSortTup
import KE.KDictLaws
import KE.KItemsList
import KE.RegKTryMore
import KE.KIsNot
import PyProof.WalkInts
import PyProof.SeqI3
import PySem.Challenge.RW_poolrules_k14_a_step_fits
set_option Elab.async false
set_option linter.all false
set_option maxRecDepth 100000
open PySem.W renaming Frag->aaa,mg_none_of->abS,kia_one->acf,kitOne->acj,emptyDict->acu,isClsIn->ac7,findIn->adi,typeIn->adj,plainGet->adu,hasDictIn->adB,instObj->adD,keepIn->adM,plainOver->adQ,fnOf->ad3,callWith_K->aei,makesIn->ael,methodCall_KW->aen,notCls->aeK,hideAll->af5,specialIn->agi,excIn->agt,plainGet_of->agu,lookIn->agT,codeIn->agU,methodObj->agX,cellsFrom_some->ahj,takerIn->ahs,OpenLaw->ahv,exmOne->ahM,kitAny->ahN,hideAll_get->ahP,of_hideAll->ah2,mroIn->ah4,mg_of->aif,kitx_list->aii,kitx_dict->aij,isFn->ain,nsIn->aiq,handedIn->air
open List renaming length_append->aab,getElem?_eq_some_iff->aaf,mem_append_right->aak,length_cons->aal,mem_cons_of_mem->aam,getElem_mem->aan,take_succ_eq_append_getElem->aao,mem_singleton->aap,mem_append->aaq,mem_cons_self->aas,length_take->aat,map_append->aau,mem_map->aaw,mem_append_left->aax,size_toArray->aaB,mem_cons->aaK,getElem_map->aaO,getElem?_map->abc,map_cons->abw,append_assoc->abH,append_nil->abI,all_append->abJ,replicate->abL,take_length->abM,length_nil->abN,length_drop->abO,mem_of_mem_take->abT,map_map->abY,mem_filter->ab1,all_eq_true->ab3,all_cons->ab6,nil_append->aca,mem_of_getElem?->acm,find?_cons->acn,lookup_cons->aco,flatMap_append->acq,range->acr,length_filter_le->acw,mem_range->acy,nodup_cons->ac6,take_of_length_le->ada,mem_map_of_mem->adh,length_replicate->adn,length_singleton->ado,any_eq_true->adv,not_mem_nil->adw,eq_nil_of_length_eq_zero->adx,nodup_append->adC,map_nil->adK,zip_cons_cons->adL,length->adO,flatMap_cons->ad1,filterMap_cons->ad6,getElem?_set_self->aed,map_id->aep,take_append_drop->aeq,any_cons->aeu,foldl_append->aez,mem_of_mem_drop->aeF,drop_eq_getElem_cons->aeJ,cons_append->aeR,lookup->aeT,replicate_succ->aeV,dropWhile_cons->aeW,map_congr_left->aeX,toList_toArray->aeY,forIn_cons->af8,getElem?_drop->agb,map_take->agd,pairwise_map->agj,drop_drop->agk,take_zero->agl,singleton_append->ago,toArray->agp,length_pos_iff_exists_mem->agq,ext_getElem->agr,getElem?_set_ne->ags,of_mem_zip->agv,getElem_of_mem->agw,takeWhile_cons->agz,getElem?_append_right->agC,mem_filterMap->agN,filter_append->agP,any_map->agQ,getElem?_take->agR,getElem?_eq_none_iff->agS,drop_zero->agV,forIn_nil->agW,all_eq_false->ag8,getElem?_cons_succ->aha,map_drop->ahh,getElem_cons_succ->ahn,drop_eq_nil_of_le->ahq,all_map->ahw,dropLast_concat->ahI,mem_iff_getElem->ahJ,getElem?_zipIdx->ahK,nodup_nil->ahO,sum_cons->aic
open PySem renaming wpAny_bind->aac,Value->aae,Shared->aah,sizeLine->aaj,wpAny_pure->aav,Addr->aay,sizeLine_eq->aaz,mainGlobals->aa3,Program->abn,boot_len->abq,wpAny->aby,Around->abP,World->abU,FuncData->abZ,mem_of_lookup->ach,Within->aim
open PySem.Str renaming ofString->aad,empty->agm,join->ahe
open PySem.Heap renaming get?_push_of_some->aag,lt_size->aaA,get?_push_size->aa0,size_push->adN,get?_push_ne->adZ,SameBut->aek,size_update->aeS,get?_update_ne->agA,FlyingW->aip
open PySem.Paired renaming length->aai,snoc->aiv
open Nat renaming le_refl->aar,lt_of_lt_of_le->aa6,ne_of_lt->abj,le_trans->ab0,zero_le->ab4,mul_le_mul_right->ac9,ne_of_gt->adz,lt_irrefl->adJ,lt_succ_of_lt->aev,min_eq_left->agy,le_of_eq->agO,le_of_lt->ahr,add_mul->ah0
open PySem.F renaming plainAttrs_list->aaN,slot_list_append->abm,type_list_append->abp,plainAttrs_str->adb,slot_list_extend->adA,slot_list_getattribute->ad5,slot_zip_getattribute->ad9,slot_str_split->aeg,slot_zip_next->aer,slot_str_join->aes,type_str_join->aet,args_tuple_add_2->ae3,args_str_split_2->af1,slot_tuple_count->af2,type_list_extend->af3,entry_tuple_add->af7,entry_str_split->aga,slot_list_count->agc,slot_tuple_iterator_next->age,slot_tuple_add->agf,slot_dict_get->agn,excBase_ValueError->agF,kt_typeCall_dict_1->agG,args_dict_init_2->ag2,slot_tuple_index->ag4,plainAttrs_tuple->ag6,type_tuple_count->ag7,args_list_extend_2->ag9,args_dict_get_3->ahc,entry_dict_init->ahd,args_zip_next_1->ahf,type_list_count->ahg,entry_list_extend->ahk,entry_dict_get->ahl,kt_called_dict->ahm,entry_zip_next->ahp
open Bool renaming false_ne_true->aaZ,and_eq_true->abg,false_eq_true->abQ,eq_iff_iff->ac3,true_and->aeB,false_and->aeH,false_or->ahb,beq_eq_decide_eq->ahy,or_eq_true->ahB
open Or renaming inl->abi,inr->ah9
open Sum renaming inr->abx,inl->aih
open Option.some renaming inj->abA
open PySem.PassesOwn renaming never->abB
open PySem.Value renaming ref->abF,none->ack,str->ac1,builtin->aew,bool->ae2,int->ah1,float->aiu
open Array renaming getD_eq_getD_getElem?->abV,length_toList->adF,append_assoc->agK
open PySem.Builtin.SmallTypes renaming nextOf->ab2,ownedTupleIsFree->ab5,ownedTupleHandOut->aeL
open PyProof.Rows renaming slot_tuple_getitem->ab7,callWith_type1->ac2,boot_isinstance->ady,boot_sorted->af4,boot_all->ahC,boot_any->ahD,boot_zip->ahE
open Int renaming toNat_natCast->acv
open False renaming elim->ac8
open PySem.Obj renaming mapSeq->adf
open PySem.W.KT renaming app_list->adg
open PySem.NameKind renaming free->adk,cell->aia
open Option renaming isSome_iff_exists->ads,map_eq_some_iff->adG,getD_some->adI,getD_none->ahi,none->ahQ,isSome_map->aik
open PySem.Builtin.List renaming listTooLong->adt
open True renaming intro->adH
open PySem.Builtin.Slice renaming slicePlaces->adP,sliceAdjust->aeI,sliceApplied->agD
open PySem.Builtin.Tuple renaming tupleExact->adR,tupleItemsOf->agE
open PySem.SeqAt renaming EqAt->adS,notIn_tupleAt->ahZ,notIn_listAt->ah8
open PySem.PyData renaming shownAll->ad0,hasDictAll->ag5,depthAll->ahA,showableAll->aid
open PySem.StrLaws renaming found_one->ad2,glued_eq_join->ahz
open PySem.Builtin.Dict renaming updateFrom->ad7,pairItems->aeh,addKeywords->ag1,selfAndRest->ag3
open Ne renaming symm->aea
open ForInStep renaming yield->aeo
open PySem.Calls renaming evalArgs_plain->aeC,spliced_cons->af6,callWith_builtin->agg,Name_function_global->agB,spliced_nil->agY,Constant_str->ah3
open PySem.Around renaming under_plainId->aeD,under->aht
open PySem.Txt renaming split->af9,stripChars->ahL,slice->aib,join->ait
open Sum.inr renaming inj->agh
open PySem.Builtin.Str renaming strSliceIndices->agx,glued->ail
open PySem.SeqAt.EqAt renaming int_str->agI,str_int->agJ,same->ahu,none_bool->ahF,bool_none->ahG,bool_bool->ahH,none_int->ahR,none_str->ahS,bool_int->ahT,bool_str->ahU,int_none->ahV,int_bool->ahW,str_none->ahX,str_bool->ahY,int_int->ah6,str_str->ah7
open PySem.AutoSeq1 renaming sub_tuple_tuple->agZ,wpAny_loadPart'->ag0
open PySem.W.Looks renaming ld->aho
open PySem.Heap.DictOf renaming new->ahx
open PyProof.Rows.IsTup renaming new->ah5
open PySem.W.KF renaming type_class->aie
open PySem.Code renaming isFrame->aio
open Std.Legacy renaming Range->ais
section
theorem z0 (h:True:=by rfl):True:=h
theorem z1 (h:True:=by decide):True:=h
theorem z2 (h:True:=by with_reducible assumption):True:=h
theorem z3 (h:True:=by first|exact .inl rfl|exact .inr rfl|assumption):True:=h
theorem z4 (h:True:=by intro _;rfl):True:=h
namespace Om
theorem q0 {a m k:Nat} (h:autoParam (a<=m) z2._auto_1) (g:autoParam (m<=k) z1._auto_1):a<=k:=Nat.le_trans h g
theorem q1 {a m k:Nat} (h:autoParam (a<=m) z2._auto_1) (g:autoParam (m<k) z1._auto_1):a<k:=Nat.lt_of_le_of_lt h g
theorem q2 {a b k:Nat} (h:autoParam (a<b) z2._auto_1) (e:autoParam (b=k) z2._auto_1):a<k:=e▸h
theorem q3 {a b k:Nat} (h:autoParam (a<b) z2._auto_1) (e:autoParam (k=b) z2._auto_1):a<k:=e▸h
theorem q4 {a b m k:Nat} (e:autoParam (a=b) z2._auto_1) (h:autoParam (b<=m) z2._auto_1) (g:autoParam (m<=k) z1._auto_1):a<=k:=Nat.le_trans (e▸h) g
theorem q5 {a b m k:Nat} (e:autoParam (b=a) z2._auto_1) (h:autoParam (b<=m) z2._auto_1) (g:autoParam (m<=k) z1._auto_1):a<=k:=Nat.le_trans (e▸h) g
theorem q6 {a m k:Nat} (e:autoParam (a=m) z2._auto_1) (g:autoParam (m<=k) z1._auto_1):a<=k:=e▸g
end Om
local macro_rules | `(tactic| omega) => `(tactic| first | exact Om.q0 | exact Om.q1 | exact Om.q2 | exact Om.q3 | exact Om.q4 | exact Om.q5 | exact Om.q6 | fail)
theorem oq {a b c d k:Nat} (e:a=c) (f:b=d) (h:a<=2) (g:b<=2) (w:autoParam (4<=k) z1._auto_1):c+d<=k:=by omega
theorem oq5 {a b c d n k:Nat} (h:a<=n) (e:a=c) (g:b<=n) (f:b=d) (z:n<=4) (w:autoParam (8<=k) z1._auto_1):c+d<=k:=by omega
theorem oq6 {x y z q k:Nat} (h:x<=8) (e:y=z) (f:y=q) (g:q<=2) (w:autoParam (10<=k) z1._auto_1):x+z<=k:=by omega
theorem Lm9 {α:Type _} {β:Type _} {as:List α} (f:α->β):(as.map f).length=as.length:=List.length_map f
theorem Ge9 {α:Type _} {l:List α} {i:Nat} (h:i<l.length):l[i]?=some l[i]:=List.getElem?_eq_getElem h
theorem Gd9 {α:Type _} {l:List α} {i:Nat} {a:α}:l.getD i a=(l[i]?).getD a:=List.getD_eq_getElem?_getD
namespace L2
open PySem PySem.Spec PyProof.Rows
abbrev Key:=Sum Int Str
noncomputable def AE:Key->aae->Bool
 | .inl k,v=>Value.isInt k v
 | .inr x,v=>Value.isStrOf x v
noncomputable def aaI (w:abU):Key->Int
 | .inl k=>hashInt k
 | .inr x=>hashStr w x
theorem cK:∀{k:Key} {v:aae},AE k v=true->(∃i t,k=aih i/\v=ah1 i t)\/(∃x t,k=abx x/\v=ac1 x t)
 | .inl i,v,h=>by
  obtain⟨t,e⟩:=Value.isInt_shape (k:=i) (v:=v) h
  exact .inl ⟨i,t,rfl,e⟩
 | .inr x,v,h=>by
  obtain⟨t,e⟩:=Value.isStrOf_shape (x:=x) (v:=v) h
  exact .inr ⟨x,t,rfl,e⟩
theorem J1 (i:Int) (t:Tok):AE (.inl i) (.int i t)=true:=by simp [AE,Value.isInt]
theorem J2 (x:Str) (t:Tok):AE (.inr x) (.str x t)=true:=by simp [AE,Value.isStrOf]
theorem SR (a b:Int):decide ((aih a:Key)=aih b)=(a == b):=by
 by_cases e:a=b
 ·subst e;simp
 ·have h:¬ (aih a:Key)=aih b:=fun q=>e (Sum.inl.inj q)
  rw [decide_eq_false h]
  exact(beq_eq_false_iff_ne.mpr e).symm
theorem SS (a b:Str):decide ((abx a:Key)=abx b)=decide (a=b):=by
 by_cases e:a=b
 ·subst e;simp
 ·have h:¬ (abx a:Key)=abx b:=fun q=>e (agh q)
  rw [decide_eq_false h,decide_eq_false e]
theorem SU (a:Int) (b:Str):decide ((aih a:Key)=abx b)=false:=decide_eq_false (fun q=>nomatch q)
theorem SV (a:Str) (b:Int):decide ((abx a:Key)=aih b)=false:=decide_eq_false (fun q=>nomatch q)
noncomputable def bh (prog:abn) (w:abU):PySem.KeyKind prog w Key where
 is:=AE
 hash:=aaI w
 inj:=fun v a b ha B=>by
  rcases cK ha with⟨i,t,rfl,rfl⟩|⟨x,t,rfl,rfl⟩
  ·rcases cK B with⟨j,u,rfl,e⟩|⟨y,u,rfl,e⟩
   ·injection e with q _;rw [q]
   ·exact nomatch e
  ·rcases cK B with⟨j,u,rfl,e⟩|⟨y,u,rfl,e⟩
   ·exact nomatch e
   ·injection e with q _;rw [q]
 byValue:=fun k v h=>by
  rcases cK h with⟨i,t,rfl,rfl⟩|⟨x,t,rfl,rfl⟩ <;> rfl
 pyHash:=fun z h=>by
  rcases cK z with⟨i,t,rfl,rfl⟩|⟨x,t,rfl,rfl⟩
  ·exact wpAny_pyHash_int h
  ·exact wpAny_pyHash_str h
 eqBool:=fun F z h=>by
  rcases cK F with⟨i,t,rfl,rfl⟩|⟨x,t,rfl,rfl⟩
  ·rcases cK z with⟨j,u,rfl,rfl⟩|⟨y,u,rfl,rfl⟩
   ·rw [SR] at h;exact wpAny_eqBool_int h
   ·rw [SU] at h;exact agI i t y u _ _ _ _ h
  ·rcases cK z with⟨j,u,rfl,rfl⟩|⟨y,u,rfl,rfl⟩
   ·rw [SV] at h;exact agJ x t j u _ _ _ _ h
   ·rw [SS] at h;exact wpAny_eqBool_str h
 «strs»:=fun k x t v h=>by
  rcases cK h with⟨i,u,rfl,e⟩|⟨y,u,rfl,e⟩
  ·exact nomatch e
  ·injection e with q _
   subst q
   cases v <;> rfl
theorem Eh (prog:abn) (w:abU) (i:Int) (t:Tok):(bh prog w).is (.inl i) (.int i t)=true:=J1 i t
theorem Ei (prog:abn) (w:abU) (x:Str) (t:Tok):(bh prog w).is (.inr x) (.str x t)=true:=J2 x t
inductive V where
 | cg|bl (b:Bool)|int (i:Int)|str (x:Str)|Mi (b:Array UInt8)|SW (b:UInt64)|ref (a:aay)|ty (n:String)|tok (x:Str) (t:Nat)
 deriving DecidableEq
noncomputable def V.pl:V->Bool
 | .tok _ _=>false
 | _=>true
def RelV:V->aae->Prop
 | .cg,u=>u=ack
 | .bl b,u=>u=ae2 b
 | .int i,u=>∃t,u=ah1 i t
 | .str x,u=>∃t,u=ac1 x t
 | .Mi b,u=>∃t,u=Value.bytes b t
 | .SW b,u=>∃t,u=aiu b t
 | .ref a,u=>u=abF a
 | .ty n,u=>u=Value.type n
 | .tok x t,u=>u=ac1 x t
abbrev Vals:List V->List aae->Prop:=Paired RelV
theorem Vals.length {xs:List V} {us:List aae} (r:Vals xs us):xs.length=us.length:=aai r
theorem Vals.get:∀{xs:List V} {us:List aae} {i:Nat} {x:V},Vals xs us->xs[i]?=some x->∃u,us[i]?=some u/\RelV x u
 | _,_,_,_,.nil,e=>by simp at e
 | _,_,0,_,.cons r _,e=>by simp at e;subst e;exact⟨_,rfl,r⟩
 | _,_,i+1,x,.cons _ t,e=>by
  obtain⟨u,h1,h2⟩:=Vals.get (i:=i) (x:=x) t (by simpa using e)
  exact⟨u,by simpa using h1,h2⟩
theorem Vals.append:∀{xs ys:List V} {us ws:List aae},Vals xs us->Vals ys ws->Vals (xs++ys) (us++ws)
 | _,_,_,_,.nil,s=>s
 | _,_,_,_,.cons r t,s=>.cons r (Vals.append t s)
theorem Vals.take:∀{xs:List V} {us:List aae} (n:Nat),Vals xs us->Vals (xs.take n) (us.take n)
 | _,_,0,_=>.nil
 | _,_,_+1,.nil=>.nil
 | _,_,n+1,.cons r t=>.cons r (Vals.take n t)
theorem Vals.drop:∀{xs:List V} {us:List aae} (n:Nat),Vals xs us->Vals (xs.drop n) (us.drop n)
 | _,_,0,r=>r
 | _,_,_+1,.nil=>.nil
 | _,_,n+1,.cons _ t=>Vals.drop n t
theorem Vals.none_of:∀{xs:List V} {us:List aae} {i:Nat},Vals xs us->xs[i]?=none->us[i]?=none:=fun {xs us i} r e=>by
 have h1:=r.length
 have h2:xs.length<=i:=agS.mp e
 exact agS.mpr (by omega)
def ma:Option V->Option aae->Prop
 | some v,some u=>RelV v u
 | none,none=>True
 | _,_=>False
def KV {κ:Type}:List (κ × V)->List (κ × aae)->Prop:=Paired fun(p:κ × V) (q:κ × aae)=>p.1=q.1/\RelV p.2 q.2
noncomputable def kV:Key->V
 | .inl i=>.int i
 | .inr x=>.str x
inductive HO where
 | lst (xs:List V)
 | tup (xs:List V)
 | dK (kvs:List (Key × V))|dT (kvs:List (List Key × V))
 | set (S:Int->Bool) (n:Nat)
 | ins (C dx:aay) (fs:List (Str × V))
 | own (x:aay)
 | xd (fs:List (Str × V))
 | met (f x:aay)
 | YZ (lo hi:Int)
 | jY (o:Obj) (u:HO)
 | Pf (ps:Array aae)
 | ext (φ:Heap->Prop)
abbrev Hp:=aay->Option HO
noncomputable def upd (H:Hp) (a:aay) (o:HO):Hp:=fun b=>if b=a then some o else H b
theorem aj {H:Hp} {a:aay} {o:HO}:upd H a o a=some o:=by unfold upd;rw [if_pos rfl]
theorem aD {H:Hp} {a b:aay} {o:HO} (h:b≠a):upd H a o b=H b:=by unfold upd;rw [if_neg h]
theorem ml {H:Hp} {a b:aay} {o u:HO} (h:H a=some o) (h':H b=some u) (d:o≠u):a≠b:=by
 intro e;subst e;rw [h] at h';exact d (abA h')
theorem aO {H:Hp} {a b:aay} {o:HO} (h:H a=some o) (h':H b=none):a≠b:=by
 intro e;subst e;rw [h] at h';cases h'
section
variable (P:abn) (w:abU)
def cL (H:Hp) (h:Heap) (a:aay):HO->Prop
 | .lst xs=>xs.length<=aaj/\∃(its:List aae) (n:Nat),Vals xs its/\h.get? a=some { cls:=.type "list",data:=.seq its.toArray n }
 | .tup xs=>xs.length<=aaj/\∃its:List aae,Vals xs its/\IsTup h a its.toArray
 | .dK kvs=>kvs.length<=aaj/\(a == sysModules)=false/\∃vs,KV kvs vs/\h.DictOf (bh P w) a vs
 | .dT kvs=>kvs.length<=aaj/\(a == sysModules)=false/\∃xs:List (List Key × aay × aae),
   Paired (fun(p:List Key × V) (q:List Key × aay × aae)=>p.1=q.1/\H q.2.1=some (.tup (p.1.map kV))/\RelV p.2 q.2.2) kvs xs /\
   ∃o es ep,h.get? a=some o/\o.ExactDict/\o.data=.dict es ep/\es.toList=xs.map (entryOfKey (tupleKind (bh P w)))/\(xs.map (·.1)).Nodup
 | .set S n=>h.SetOf (intKind P w) a S n
 | .ins C dx fs=>H dx=some (.own a)/\fs.length<=1000/\dx≠a/\h.get? a=some (adD C dx) /\
   ∃mA,h.Ns1 dx mA/\(∀f,ma (fs.lookup f) (mA f))/\aim mA (fs.map (·.1))
 | .own _=>∃o,h.get? a=some o
 | .xd fs=>∃mA,h.Ns1 a mA/\∀f,ma (fs.lookup f) (mA f)
 | .YZ lo hi=>∃t u v,h.get? a=some { cls:=.type "range",data:=.fields #[.int lo t,.int hi u,.int 1 v] }
 | .jY o u=>h.get? a=some o/\cL H h a u
 | .Pf ps=>h.get? a=some { cls:=.none,data:=.fields ps }
 | .met f x=>h.get? a=some (agX (.ref f) (.ref x))
 | .ext φ=>φ h/\(∃o,h.get? a=some o)/\∀h1 h2:Heap,φ h1->(∀o,h1.get? a=some o->h2.get? a=some o)->φ h2
def mm (H:Hp) (h:Heap):Prop:=∀a o,H a=some o->cL P w H h a o
end
section
variable {P:abn} {w:abU} {H H':Hp} {h h':Heap} {a:aay} {o:HO}
theorem cL.lt (x:cL P w H h a o):a<h.objs.size:=by
 cases o with
 | lst xs=>obtain⟨_,_,_,_,e⟩:=x;exact aaA e
 | tup xs=>obtain⟨_,_,_,p⟩:=x;exact p.lt
 | dK kvs=>obtain⟨_,_,_,_,o,_,_,e,_⟩:=x;exact aaA e
 | dT kvs=>obtain⟨_,_,_,_,o,_,_,e,_⟩:=x;exact aaA e
 | set S n=>obtain⟨o,_,_,_,e,_⟩:=x;exact aaA e
 | ins C dx fs=>obtain⟨_,_,_,e,_⟩:=x;exact aaA e
 | own y=>obtain⟨_,e⟩:=x;exact aaA e
 | xd fs=>obtain⟨_,⟨_,_,_,e,_⟩,_⟩:=x;exact aaA e
 | YZ lo hi=>obtain⟨_,_,_,e⟩:=x;exact aaA e
 | jY ob u=>obtain⟨e,_⟩:=x;exact aaA e
 | Pf ps=>exact aaA (show h.get? a=some _ from x)
 | met f y=>exact aaA (show h.get? a=some _ from x)
 | ext φ=>obtain⟨_,⟨_,e⟩,_⟩:=x;exact aaA e
theorem Paired.bA {α β:Type} {F G:α->β->Prop}:∀{l₁:List α} {l₂:List β},Paired F l₁ l₂->(∀a b,F a b->G a b)->Paired G l₁ l₂
 | _,_,.nil,_=>.nil
 | _,_,.cons r t,f=>.cons (f _ _ r) (Paired.bA t f)
theorem cL.Ej (x:cL P w H h a o) (k:∀b u,(b=a\/H b=some (.own a))->h.get? b=some u->h'.get? b=some u)
  (F:∀b,H b=some (.own a)->H' b=some (.own a)) (G:∀b xs,H b=some (.tup xs)->H' b=some (.tup xs)):cL P w H' h' a o:=by
 induction o with
 | lst xs=>obtain⟨z,its,n,r,e⟩:=x;exact⟨z,its,n,r,k _ _ (.inl rfl) e⟩
 | tup xs=>obtain⟨z,its,r,ob,e,c⟩:=x;exact⟨z,its,r,ob,k _ _ (.inl rfl) e,c⟩
 | dK kvs=>obtain⟨z,y,vs,r,ob,es,ep,e,c⟩:=x;exact⟨z,y,vs,r,ob,es,ep,k _ _ (.inl rfl) e,c⟩
 | dT kvs =>
  obtain⟨z,y,xs,r,ob,es,ep,e,c⟩:=x
  exact⟨z,y,xs,Paired.bA r fun p q z=>⟨z.1,G _ _ z.2.1,z.2.2⟩,ob,es,ep,k _ _ (.inl rfl) e,c⟩
 | set S n=>obtain⟨ob,es,ep,t,e,c⟩:=x;exact⟨ob,es,ep,t,k _ _ (.inl rfl) e,c⟩
 | ins C dx fs =>
  obtain⟨d,z,ne,e,mA,⟨od,es,ep,B,c⟩,r⟩:=x
  exact⟨F _ d,z,ne,k _ _ (.inl rfl) e,mA,⟨od,es,ep,k _ _ (.inr d) B,c⟩,r⟩
 | own y=>obtain⟨ob,e⟩:=x;exact⟨ob,k _ _ (.inl rfl) e⟩
 | xd fs=>obtain⟨mA,⟨od,es,ep,e,c⟩,r⟩:=x;exact⟨mA,⟨od,es,ep,k _ _ (.inl rfl) e,c⟩,r⟩
 | YZ lo hi=>obtain⟨t,u,v,e⟩:=x;exact⟨t,u,v,k _ _ (.inl rfl) e⟩
 | jY ob u ih=>obtain⟨e,q⟩:=x;exact⟨k _ _ (.inl rfl) e,ih q⟩
 | Pf ps =>
  have e:h.get? a=some { cls:=.none,data:=.fields ps }:=x
  show h'.get? a=some { cls:=.none,data:=.fields ps }
  exact k a _ (.inl rfl) e
 | met f y =>
  have e:h.get? a=some (agX (.ref f) (.ref y)):=x
  show h'.get? a=some (agX (.ref f) (.ref y))
  exact k a _ (.inl rfl) e
 | ext φ=>obtain⟨p,⟨o,e⟩,st⟩:=x;exact⟨st _ _ p fun o q=>k _ _ (.inl rfl) q,⟨o,k _ _ (.inl rfl) e⟩,st⟩
theorem mm.lt (x:mm P w H h) (e:H a=some o):a<h.objs.size:=(x a o e).lt
theorem mm.fresh (x:mm P w H h) (e:h.objs.size<=a):H a=none:=by
 cases q:H a with
 | none=>rfl
 | some u=>exact absurd (aa6 (x.lt q) e) (adJ _)
theorem mm.kept (x:mm P w H h) (k:∀b u,h.get? b=some u->h'.get? b=some u):mm P w H h':=fun a o e =>
 (x a o e).Ej (fun b u _ q=>k b u q) (fun _ q=>q) fun _ _ q=>q
theorem mm.laid (x:mm P w H h) (k:∀b u,h.get? b=some u->h'.get? b=some u) (B:h.objs.size<=a) (new:cL P w (upd H a o) h' a o):mm P w (upd H a o) h':=fun b u e=>by
 have hn:=x.fresh B
 by_cases z:b=a
 ·subst z;rw [aj] at e;cases e;exact new
 ·rw [aD z] at e
  exact(x b u e).Ej (fun c v _ q=>k c v q) (fun c q=>by rw [aD (aO q hn)];exact q) fun c xs q=>by rw [aD (aO q hn)];exact q
end
def Rd (H:Hp) (a:aay) (u:HO):Prop:=H a=some u\/∃o,H a=some (.jY o u)
theorem Rd.ok {P:abn} {w:abU} {H:Hp} {h:Heap} {a:aay} {u:HO} (r:Rd H a u) (x:mm P w H h):cL P w H h a u:=by
 rcases r with r|⟨o,r⟩
 ·exact x a u r
 ·obtain⟨_,q⟩:=x a _ r
  exact q
def VR:Option HO->Prop
 | some (.lst _)=>True
 | some (.dK _)=>True
 | some (.dT _)=>True
 | some (.set _ _)=>True
 | some (.ins _ _ _)=>True
 | some (.ext _)=>True
 | _=>False
section
variable {P:abn} {w:abU} {H:Hp} {h h':Heap} {x e:aay} {o':HO}
theorem mm.write (ok:mm P w H h) (mu:VR (H x)) (G:e=x\/H e=some (.own x)) (k:∀b u,b≠e->h.get? b=some u->h'.get? b=some u) (RM:∃u,h'.get? e=some u)
  (new:cL P w (upd H x o') h' x o'):mm P w (upd H x o') h':=fun b u q=>by
 have VS:∀c y,H c=some (.own y)->c≠x:=fun c y r z=>by subst z;rw [r] at mu;exact mu
 have aaJ:∀c xs,H c=some (.tup xs)->c≠x:=fun c xs r z=>by subst z;rw [r] at mu;exact mu
 by_cases B:b=x
 ·subst B;rw [aj] at q;cases q;exact new
 ·rw [aD B] at q
  by_cases SX:b=e
  ·have J:H b=some (.own x):=by
    rcases G with z|z
    ·exact absurd (SX.trans z) B
    ·rw [SX];exact z
   rw [q] at J;cases J
   obtain⟨v,L⟩:=RM
   exact⟨v,by rw [SX];exact L⟩
  ·refine(ok b u q).Ej (fun c v F r=>k c v ?_ r) (fun c r=>by rw [aD (VS c b r)];exact r) fun c xs r=>by rw [aD (aaJ c xs r)];exact r
   rcases F with rfl|F
   ·exact SX
   ·rintro rfl
    rcases G with z|z
    ·exact VS c b F z
    ·rw [F] at z;cases z;exact B rfl
end
structure Un (fs ex:List aay) (H H':Hp) (h h':Heap):Prop where
 keep:∀b o,h.get? b=some o->H b=none->b∉fs->b∉ex->h'.get? b=some o
 slot:∀b o,h.get? b=some o->H b=none->b∈fs->b∉ex->∃sl,h'.get? b=some { o with slots:=sl }
 free:∀b o,h.get? b=some o->H b=none->b∉ex->H' b=none
 there:∀b o,h.get? b=some o->b∉ex->∃o',h'.get? b=some o'
 pj:∀b xs,H b=some (.tup xs)->H' b=some (.tup xs)
 oz:∀b o u,H b=some (.jY o u)->H' b=some (.jY o u)
 pw:∀b ps,H b=some (.Pf ps)->∃more,H' b=some (.Pf (ps++more))
section
variable {fs j3 ex k8:List aay} {H H1 U:Hp} {h h1 h2 h':Heap} {a x e:aay} {o:HO}
theorem Un.any (u:Un fs ex H H1 h h1) {b:aay} {ob:Obj} (q:h.get? b=some ob) (n:H b=none) (B:b∉ex):∃sl,h1.get? b=some { ob with slots:=sl }:=by
 by_cases z:b∈fs
 ·exact u.slot b ob q n z B
 ·exact⟨ob.slots,u.keep b ob q n z B⟩
theorem Un.kept (k:∀b u,h.get? b=some u->h'.get? b=some u):Un fs ex H H h h' :=
 ⟨fun b ob q _ _ _=>k b ob q,fun b ob q _ _ _=>⟨ob.slots,k b ob q⟩,fun _ _ _ n _=>n,fun b ob q _=>⟨ob,k b ob q⟩,fun _ _ q=>q,fun _ _ _ q=>q,fun _ ps q=>⟨#[],by rw [q];simp⟩⟩
theorem Un.refl:Un fs ex H H h h:=Un.kept fun _ _ q=>q
theorem Un.laid (k:∀b u,h.get? b=some u->h'.get? b=some u) (z:h.objs.size<=a) (hn:H a=none):Un fs ex H (upd H a o) h h' where
 keep:=fun b u q _ _ _=>k b u q
 slot:=fun b u q _ _ _=>⟨u.slots,k b u q⟩
 free:=fun b u q n _=>by rw [aD (abj (aa6 (aaA q) z))];exact n
 there:=fun b u q _=>⟨u,k b u q⟩
 pj:=fun b xs q=>by rw [aD (aO q hn)];exact q
 oz:=fun b u xs q=>by rw [aD (aO q hn)];exact q
 pw:=fun b ps q=>⟨#[],by rw [aD (aO q hn),q];simp⟩
theorem Un.write (mu:VR (H x)) (G:e=x\/H e=some (.own x)) (k:∀b u,b≠e->h.get? b=some u->h'.get? b=some u) (RM:∃u,h'.get? e=some u):Un fs ex H (upd H x o) h h':=by
 have F:∀b,H b=none->b≠x:=fun b n z=>by subst z;rw [n] at mu;exact mu
 have B:∀b,H b=none->b≠e:=fun b n z=>by
  subst z
  rcases G with r|r
  ·exact F b n r
  ·rw [n] at r;cases r
 have hm:∀b u,H b=some u->¬ VR (some u)->b≠x:=fun b u q nm z=>by subst z;rw [q] at mu;exact nm mu
 refine⟨fun b u q n _ _=>k b u (B b n) q,fun b u q n _ _=>⟨u.slots,k b u (B b n) q⟩,fun b u q n _=>by rw [aD (F b n)];exact n,fun b u q _=>?_,
  fun b xs q=>by rw [aD (hm b _ q fun z=>z)];exact q,fun b u xs q=>by rw [aD (hm b _ q fun z=>z)];exact q,fun b ps q=>⟨#[],by rw [aD (hm b _ q fun z=>z),q];simp⟩⟩
 by_cases SX:b=e
 ·subst SX;exact RM
 ·exact⟨u,k b u SX q⟩
end
noncomputable def Y0 (h:Heap) (H:Hp):List aay:=(acr h.objs.size).filter fun a=>(H a).isSome
noncomputable def BL (h:Heap) (H:Hp):Heap:=af5 h (Y0 h H)
theorem J3 (h:Heap) (H:Hp):(BL h H).objs.size=h.objs.size:=PySem.W.hideAll_size _ _
theorem My {h:Heap} {H:Hp} {b:aay} {o:Obj} (e:h.get? b=some o) (n:H b=none):(BL h H).get? b=some o :=
 ahP _ e fun hm=>by
  have q:(H b).isSome=true:=(ab1.mp hm).2
  rw [n] at q;simp at q
theorem Pw {h:Heap} {H:Hp} {b:aay} {o:Obj} (e:(BL h H).get? b=some o):h.get? b=some o/\H b=none:=by
 have B:h.get? b=some o:=ah2 (Y0 h H) e
 refine⟨B,?_⟩
 cases q:H b with
 | none=>rfl
 | some x =>
  have hm:b∈Y0 h H:=ab1.mpr ⟨acy.mpr (aaA B),by simp [q]⟩
  have z:(BL h H).get? b=none:=PySem.W.hideAll_none (Y0 h H) hm
  rw [z] at e;cases e
structure Mod (K:aaa) (mg:Str->Option aae) (base:Heap):Prop where
 Px:K.In base
 glob:base.Ns aa3 mg
 blt:∃mb,base.Ns builtinsNs mb/\∀x:Str,x≠"__name__"->mb x=bootBuiltins x
 nolimit:base.NoLimit
structure Cx where
 prog:abn
 w:abU
 K:aaa
 mg:Str->Option aae
 base:Heap
 A:abP
 N:List Str
 s₀:aah
 H₀:Hp
 env:Env
 outer:List Env
 stack:List Env
 ex:List aay
 fn:Str->Bool
 calm:Bool
 pn:List (aay × Obj)
 xe:aae->aah->Prop
noncomputable def jd (l:List Env):List aay:=l.filterMap (·.frame)
noncomputable abbrev Cx.fs (X:Cx):List aay:=jd X.outer
def Y1 (sc:Scope) (x:Str):Prop:=sc.names.lookup x=some .local\/sc.names.lookup x=some .cell\/sc.names.lookup x=some .free
def Loc (sc:Scope) (x:Str):Prop:=sc.names.lookup x=some .local\/sc.names.lookup x=some .cell
def Look (env:Env) (h:Heap) (m:Str->Option aae) (x:Str) (u:aae):Prop :=
 (env.kindOf x=some .local/\m x=some u)\/((env.kindOf x=some .cell\/env.kindOf x=some .free)/\∃c,env.cells.lookup x=some c/\h.IsCell c (some u))
structure Cx.Ok (X:Cx):Prop where
 mod:Mod X.K X.mg X.base
 kind:X.env.scope.kind=.function
 glob:X.env.globals=aa3
 blt:X.env.builtins=builtinsNs
 above:X.s₀.heap.objs.size<=X.env.locals
 inj:∀x y c,X.env.cells.lookup x=some c->X.env.cells.lookup y=some c->x=y
 has:∀x,(X.env.kindOf x=some .cell\/X.env.kindOf x=some .free)->∃c,X.env.cells.lookup x=some c
 SY:∀x c,X.fn x=true->X.env.cells.lookup x=some c->X.s₀.heap.objs.size<=c
 hd:X.calm=true->X.A.handled=none
 frames:X.A.frames=some X.stack
 Vm:X.stack=X.outer\/(X.stack=X.env::X.outer/\X.env.frame=some X.env.locals)
 exf:∀b∈X.ex,b≠X.env.locals/\∀x c,X.env.cells.lookup x=some c->c≠b
 bs:∀b o,X.base.get? b=some o->X.s₀.heap.get? b=some o/\X.H₀ b=none
 Pg:X.base.objs.size<=X.s₀.heap.objs.size
 Ka:∀b o,X.base.get? b=some o->b∉X.ex
 Mz:∀b∈X.ex,b∉X.fs
 qd:X.s₀.heap.FunFrames X.base X.outer
 Ph:∀b∈X.fs,X.H₀ b=none
structure Inv (X:Cx) (pins:List (aay × Obj)) (σ:List (Option V)) (H:Hp) (s:aah):Prop where
 ok:X.Ok
 os:s.os=X.s₀.os
 bare:AllBare s.gens
 base:Un X.fs X.ex X.H₀ H X.s₀.heap s.heap
 loc:∃m,s.heap.Ns X.env.locals m/\∀(i:Nat) (x:Str) (v:V),X.N[i]?=some x->σ[i]?=some (some v)->Y1 X.env.scope x->∃u,RelV v u/\Look X.env s.heap m x u
 cell:∀x c,X.env.cells.lookup x=some c->∃v,s.heap.IsCell c v
 free:H X.env.locals=none
 iC:∀x c,X.env.cells.lookup x=some c->H c=none
 pin:∀p∈X.pn++pins,s.heap.get? p.1=some p.2/\H p.1=none/\p.1≠X.env.locals/\p.1∉X.fs/\∀v,p.2.data≠.cell v
 hok:mm X.prog X.w H s.heap
 len:σ.length=X.N.length
section
variable {X:Cx} {pins:List (aay × Obj)} {σ:List (Option V)} {H H':Hp} {s:aah} {h':Heap}
theorem Cx.Ok.aaL (ok:X.Ok) {b:aay} {o:Obj} (e:X.base.get? b=some o):b∉X.fs:=fun q=>by
 have:=(ok.qd.mem q).1
 rw [e] at this;cases this
theorem Inv.bs (I:Inv X pins σ H s):∀b o,X.base.get? b=some o->s.heap.get? b=some o/\H b=none:=fun b o e =>
 ⟨I.base.keep b o (I.ok.bs b o e).1 (I.ok.bs b o e).2 (I.ok.aaL e) (I.ok.Ka b o e),I.base.free b o (I.ok.bs b o e).1 (I.ok.bs b o e).2 (I.ok.Ka b o e)⟩
theorem Inv.bk (I:Inv X pins σ H s):∀b o,X.base.get? b=some o->s.heap.get? b=some o:=fun b o e=>(I.bs b o e).1
theorem Inv.mod (I:Inv X pins σ H s):Mod X.K X.mg X.base:=I.ok.mod
theorem Inv.oE (I:Inv X pins σ H s):X.K.In s.heap:=I.ok.mod.Px.keeps I.bk
theorem Inv.lt (I:Inv X pins σ H s):X.env.locals<s.heap.objs.size:=let ⟨_,hn,_⟩:=I.loc;hn.lt
theorem Inv.sz (I:Inv X pins σ H s):X.s₀.heap.objs.size<=s.heap.objs.size:=ab0 I.ok.above (ahr I.lt)
theorem Inv.aaM (I:Inv X pins σ H s) {a:aay} (h:s.heap.objs.size<=a):a∉X.fs:=fun q=>by
 obtain⟨_,o,z,_⟩:=I.ok.qd.mem q
 exact absurd (aa6 (aaA z) (ab0 I.sz h)) (adJ _)
theorem Inv.Kb (I:Inv X pins σ H s):∀x c,X.env.cells.lookup x=some c->c≠X.env.locals:=fun x c e z=>by
 obtain⟨v,o,F,hd⟩:=I.cell x c e
 obtain⟨m,⟨o',es,ep,B,q,_⟩,_⟩:=I.loc
 rw [z,B] at F;cases F;rw [q] at hd;cases hd
theorem Inv.qd (I:Inv X pins σ H s):s.heap.FunFrames X.base X.outer:=by
 have all:∀(l:List Env),(∀b∈jd l,b∈X.fs)->X.s₀.heap.FunFrames X.base l->s.heap.FunFrames X.base l:=by
  intro l
  induction l with
  | nil=>intro _ _;trivial
  | cons env r ih =>
   intro hs hl
   obtain⟨hk,⟨L,o,F,hn,G,hd⟩,hr⟩:=hl
   have q:L∈X.fs:=hs L (by unfold jd;rw [ad6,F];exact aas)
   obtain⟨sl,e⟩:=I.base.slot L o G (I.ok.Ph L q) q fun z=>I.ok.Mz L z q
   exact⟨hk,⟨L,_,F,hn,e,hd⟩,ih (fun b B=>hs b (by unfold jd;rw [ad6,F];exact aam _ B)) hr⟩
 exact all X.outer (fun _ B=>B) I.ok.qd
theorem Inv.stack (I:Inv X pins σ H s):s.heap.FunFrames X.base X.stack:=by
 rcases I.ok.Vm with e|⟨e,q⟩
 ·rw [e];exact I.qd
 ·rw [e]
  obtain⟨m,hn,_⟩:=I.loc
  refine .cons (by rw [I.ok.kind];decide) q hn ?_ I.qd
  exact Heap.get?_none_of_le (ab0 I.ok.Pg I.ok.above)
theorem Inv.BM (I:Inv X pins σ H s):∀b∈jd X.stack,b∈X.env.locals::X.fs:=fun b q=>by
 rcases I.ok.Vm with e|⟨e,z⟩
 ·rw [e] at q;exact aam _ q
 ·rw [e] at q
  unfold jd at q
  rw [ad6,z] at q
  exact q
theorem Inv.BN (I:Inv X pins σ H s):∀b∈jd X.stack,H b=none:=fun b q=>by
 rcases aaK.mp (I.BM b q) with e|q
 ·rw [e];exact I.free
 ·obtain⟨_,o,B,_⟩:=I.ok.qd.mem q
  exact I.base.free b o B (I.ok.Ph b q) fun z=>I.ok.Mz b z q
theorem Inv.step {g':Array GenState} {t':Nat} {d':Drawn} {ch:List aay} (I:Inv X pins σ H s)
  (Pj:∀b∈ch,(b∈X.ex\/X.s₀.heap.objs.size<=b)/\b≠X.env.locals/\(∀x c,X.env.cells.lookup x=some c->c≠b)/\∀p∈X.pn++pins,p.1≠b)
  (keep:∀b o,b≠X.env.locals->b∉X.fs->b∉ch->s.heap.get? b=some o->H b=none->h'.get? b=some o)
  (slot:∀b o,b≠X.env.locals->b∈X.fs->b∉ch->s.heap.get? b=some o->H b=none->∃sl,h'.get? b=some { o with slots:=sl }) (free:∀b o,b∉ch->s.heap.get? b=some o->H b=none->H' b=none)
  (there:∀b o,b∉ch->s.heap.get? b=some o->∃o',h'.get? b=some o')
  (pj:∀b xs,H b=some (.tup xs)->H' b=some (.tup xs)) (oz:∀b o u,H b=some (.jY o u)->H' b=some (.jY o u)) (pw:∀b ps,H b=some (.Pf ps)->∃more,H' b=some (.Pf (ps++more)))
  (ns:∀m,s.heap.Ns X.env.locals m->h'.Ns X.env.locals m) (hok:mm X.prog X.w H' h') (Z:AllBare g') :
  Inv X pins σ H' { s with heap:=h',gens:=g',drawn:=d',toks:=t' }:=by
 have VT:∀b o,X.s₀.heap.get? b=some o->b≠X.env.locals:=fun b o e=>abj (aa6 (aaA e) I.ok.above)
 have Y2:∀b o,X.s₀.heap.get? b=some o->b∉X.ex->b∉ch:=fun b o e B G=>by
  rcases(Pj b G).1 with z|z
  ·exact B z
  ·exact absurd (aa6 (aaA e) z) (adJ _)
 have cellK:∀x c,X.env.cells.lookup x=some c->∀v,s.heap.IsCell c v->h'.IsCell c v:=fun x c e v ⟨o,J,hd⟩=>by
  have VU:c∉ch:=fun z=>(Pj c z).2.2.1 x c e rfl
  by_cases O:c∈X.fs
  ·obtain⟨sl,q⟩:=slot c o (I.Kb x c e) O VU J (I.iC x c e)
   exact⟨_,q,hd⟩
  ·exact⟨o,keep c o (I.Kb x c e) O VU J (I.iC x c e),hd⟩
 refine⟨I.ok,I.os,Z,⟨fun b o e n G B=>?_,fun b o e n G B=>?_,fun b o e n B=>?_,fun b o e B=>?_,fun b xs e=>pj b xs (I.base.pj b xs e),fun b o xs e=>oz b o xs (I.base.oz b o xs e),fun b ps e=>?_⟩,?_,fun x c e=>?_,?_,fun x c e=>?_,fun p V=>?_,hok,I.len⟩
 ·exact keep b o (VT b o e) G (Y2 b o e B) (I.base.keep b o e n G B) (I.base.free b o e n B)
 ·obtain⟨sl,F⟩:=I.base.slot b o e n G B
  obtain⟨sl',L⟩:=slot b _ (VT b o e) G (Y2 b o e B) F (I.base.free b o e n B)
  exact⟨sl',L⟩
 ·obtain⟨o',F⟩:=I.base.there b o e B
  exact free b o' (Y2 b o e B) F (I.base.free b o e n B)
 ·obtain⟨o',F⟩:=I.base.there b o e B
  exact there b o' (Y2 b o e B) F
 ·obtain⟨m1,F⟩:=I.base.pw b ps e
  obtain⟨m2,L⟩:=pw b _ F
  exact⟨m1++m2,by rw [L,agK]⟩
 ·obtain⟨m,hn,hl⟩:=I.loc
  refine⟨m,ns m hn,fun i x v F L Y=>?_⟩
  obtain⟨u,r,l⟩:=hl i x v F L Y
  refine⟨u,r,?_⟩
  rcases l with l|⟨k,c,e,z⟩
  ·exact .inl l
  ·exact .inr ⟨k,c,e,cellK x c e _ z⟩
 ·obtain⟨v,z⟩:=I.cell x c e
  exact⟨v,cellK x c e v z⟩
 ·obtain⟨m,⟨o,_,_,J,_⟩,_⟩:=I.loc
  exact free _ o (fun z=>(Pj _ z).2.1 rfl) J I.free
 ·obtain⟨v,o,J,hd⟩:=I.cell x c e
  exact free c o (fun z=>(Pj c z).2.2.1 x c e rfl) J (I.iC x c e)
 ·obtain⟨e,n,ne,nf,d⟩:=I.pin p V
  have VU:p.1∉ch:=fun z=>(Pj p.1 z).2.2.2 p V rfl
  exact⟨keep p.1 p.2 ne nf VU e n,free p.1 p.2 VU e n,ne,nf,d⟩
theorem Inv.un {t':Nat} (I:Inv X pins σ H s) (u:Un X.fs [] H H' s.heap h') (hok:mm X.prog X.w H' h'):Inv X pins σ H' { s with heap:=h',toks:=t' }:=by
 obtain⟨m,⟨o,es,ep,F,r⟩,_⟩:=id I.loc
 obtain⟨sl,G⟩:=u.any F I.free (by simp)
 exact I.step (g':=s.gens) (d':=s.drawn) (ch:=[]) (fun _ z=>nomatch z) (fun b o _ B _ e n=>u.keep b o e n B (by simp)) (fun b o _ B _ e n=>u.slot b o e n B (by simp)) (fun b o _ e n=>u.free b o e n (by simp)) (fun b o _ e=>u.there b o e (by simp)) u.pj u.oz u.pw (fun L hm=>by
  obtain⟨o',es',ep',q,J⟩:=hm
  rw [F] at q;cases q
  exact⟨_,es',ep',G,J⟩) hok I.bare
theorem Inv.call {g':Array GenState} {t':Nat} {d':Drawn} {ch:List aay} (I:Inv X pins σ H s) (u:Un (jd X.stack) ch H H' s.heap h') (hok:mm X.prog X.w H' h') (L:AllBare g')
  (Pj:∀b∈ch,(b∈X.ex\/X.s₀.heap.objs.size<=b)/\b≠X.env.locals/\(∀x c,X.env.cells.lookup x=some c->c≠b)/\∀p∈X.pn++pins,p.1≠b) :
  Inv X pins σ H' { s with heap:=h',gens:=g',drawn:=d',toks:=t' }:=by
 obtain⟨m,⟨o,es,ep,G,r⟩,_⟩:=id I.loc
 obtain⟨sl,F⟩:=u.any G I.free fun z=>(Pj _ z).2.1 rfl
 exact I.step (ch:=ch) Pj (fun b o F J q e n=>u.keep b o e n (fun z=>(aaK.mp (I.BM b z)).elim F J) q) (fun b o _ _ q e n=>u.any e n q) (fun b o q e n=>u.free b o e n q) (fun b o q e=>u.there b o e q) u.pj u.oz u.pw (fun V hm=>by
  obtain⟨o',es',ep',B,O⟩:=hm
  rw [G] at B;cases B
  exact⟨_,es',ep',F,O⟩) hok L
theorem Inv.turned {t':Nat} {it:aay} (I:Inv X pins σ H s) (k:∀b o,b≠it->s.heap.get? b=some o->h'.get? b=some o) (hn:H it=none) (F:it≠X.env.locals)
  (h1:it∈X.ex\/X.s₀.heap.objs.size<=it) (h2:∀x c,X.env.cells.lookup x=some c->c≠it) (G:∀p∈X.pn++pins,p.1≠it):Inv X pins σ H { s with heap:=h',toks:=t' }:=by
 have VW:∀b u,H b=some u->b≠it:=fun b u e z=>by rw [z,hn] at e;cases e
 refine I.step (g':=s.gens) (d':=s.drawn) (ch:=[it]) (fun b J=>?_) (fun b o _ _ B e _=>k b o (fun z=>B (by simp [z])) e) (fun b o _ _ B e _=>⟨o.slots,k b o (fun z=>B (by simp [z])) e⟩) (fun _ _ _ _ n=>n)
  (fun b o B e=>⟨o,k b o (fun z=>B (by simp [z])) e⟩) (fun _ _ e=>e) (fun _ _ _ e=>e) (fun b ps e=>⟨#[],by rw [e];simp⟩) (fun m hm=>?_) (fun b u e=>?_) I.bare
 ·have e:b=it:=by simpa using J
  subst e
  exact⟨h1,F,h2,G⟩
 ·obtain⟨o,es,ep,L,r⟩:=hm
  exact⟨o,es,ep,k _ o (aea F) L,r⟩
 ·refine(I.hok b u e).Ej (fun c v B q=>k c v ?_ q) (fun _ q=>q) fun _ _ q=>q
  rcases B with z|z
  ·rw [z];exact VW b u e
  ·exact VW c _ z
theorem Inv.tok (I:Inv X pins σ H s) (t:Nat):Inv X pins σ H { s with toks:=t }:=I.un (h':=s.heap) (t':=t) Un.refl I.hok
theorem Inv.kept {t':Nat} (I:Inv X pins σ H s) (k:∀b u,s.heap.get? b=some u->h'.get? b=some u):Inv X pins σ H { s with heap:=h',toks:=t' }:=I.un (Un.kept k) (I.hok.kept k)
theorem Inv.laid {a:aay} {o:HO} {t':Nat} (I:Inv X pins σ H s) (k:∀b u,s.heap.get? b=some u->h'.get? b=some u) (q:s.heap.objs.size<=a) (new:cL X.prog X.w (upd H a o) h' a o) :
  Inv X pins σ (upd H a o) { s with heap:=h',toks:=t' }:=I.un (Un.laid k q (I.hok.fresh q)) (I.hok.laid k q new)
theorem Inv.write {x e:aay} {o:HO} {t':Nat} (I:Inv X pins σ H s) (mu:VR (H x)) (q:e=x\/H e=some (.own x)) (k:∀b u,b≠e->s.heap.get? b=some u->h'.get? b=some u) (RM:∃u,h'.get? e=some u)
  (new:cL X.prog X.w (upd H x o) h' x o):Inv X pins σ (upd H x o) { s with heap:=h',toks:=t' }:=I.un (Un.write mu q k RM) (I.hok.write mu q k RM new)
theorem Inv.IV {iD:List (aay × Obj)} (I:Inv X pins σ H s) (h:∀p∈iD,s.heap.get? p.1=some p.2/\H p.1=none/\p.1≠X.env.locals/\p.1∉X.fs/\∀v,p.2.data≠.cell v):Inv X iD σ H s :=
 ⟨I.ok,I.os,I.bare,I.base,I.loc,I.cell,I.free,I.iC,fun p q=>(aaq.mp q).elim (fun z=>I.pin p (aax _ z)) (h p),I.hok,I.len⟩
theorem vK {N:List Str} (B:N.Nodup) {i j:Nat} {x:Str} (a:N[i]?=some x) (b:N[j]?=some x):i=j:=by
 obtain⟨h1,q⟩:=aaf.mp a
 obtain⟨h2,z⟩:=aaf.mp b
 exact(List.getElem_inj B).mp (q.trans z.symm)
theorem AF {M:Model} {A:abP} {E:aae->aah->Prop} {i:Nat} {x:Str} {v:V} {u:aae} {Q:Unit->aah->Prop} (I:Inv X pins σ H s) (hN:X.N.Nodup) (hi:X.N[i]?=some x) (G:Loc X.env.scope x) (r:RelV v u)
  (h:∀s',Inv X pins (σ.set i (some v)) H s'->(∃a,aek a s.heap s'.heap/\(a=X.env.locals\/X.env.cells.lookup x=some a))->Q () s') (hf:autoParam (X.fn x=true\/X.env.scope.names.lookup x=some .local) z3._auto_1):aby M A (storeName X.env x u) Q E s:=by
 obtain⟨m,hn,hl⟩:=id I.loc
 have aaP:(X.env.scope.kind == .class || (X.env.scope.kind == .module && X.env.locals != X.env.globals))=false:=by rw [I.ok.kind];rfl
 have Y3:i<σ.length:=by rw [I.len];exact(aaf.mp hi).1
 have Kb:=I.Kb
 have tracked:∀{a:aay} {h':Heap},(∃o,s.heap.get? a=some o/\H a=none)->aek a s.heap h'->mm X.prog X.w H h':=fun {a h'} ha hs b ob e=>by
  obtain⟨_,_,hfree⟩:=ha
  refine(I.hok b ob e).Ej (fun c w' F q=>(hs.2 c ?_).trans q) (fun _ q=>q) fun _ _ q=>q
  rintro rfl
  rcases F with rfl|F
  ·rw [hfree] at e;cases e
  ·rw [hfree] at F;cases F
 rcases G with hk|hk
 ·refine wpAny_storeName_local hk hn (fun h' a1 hs=>?_) aaP
  obtain⟨oL,_,_,Y4,_⟩:=id hn
  refine h _ ⟨I.ok,I.os,I.bare,⟨fun b o e n L G=>?_,fun b o e n L G=>?_,I.base.free,fun b o e G=>?_,I.base.pj,I.base.oz,I.base.pw⟩,⟨_,a1,fun j y v' B J e3=>?_⟩,fun y c e=>?_,I.free,I.iC,fun p hp=>?_,tracked ⟨oL,Y4,I.free⟩ hs,by simpa using I.len⟩ ⟨_,hs,.inl rfl⟩
  ·exact(hs.2 b (abj (aa6 (aaA e) I.ok.above))).trans (I.base.keep b o e n L G)
  ·obtain⟨sl,B⟩:=I.base.slot b o e n L G
   exact⟨sl,(hs.2 b (abj (aa6 (aaA e) I.ok.above))).trans B⟩
  ·obtain⟨o',B⟩:=I.base.there b o e G
   exact⟨o',(hs.2 b (abj (aa6 (aaA e) I.ok.above))).trans B⟩
  ·by_cases O:j=i
   ·subst O
    rw [hi] at B;cases B
    rw [aed Y3] at J
    cases J
    exact⟨u,r,.inl ⟨hk,by simp⟩⟩
   ·rw [ags (aea O)] at J
    obtain⟨u',r',q⟩:=hl j y v' B J e3
    refine⟨u',r',?_⟩
    rcases q with⟨k,e⟩|⟨k,c,e,z⟩
    ·refine .inl ⟨k,?_⟩
     have:y≠x:=fun e=>O (vK hN B (e ▸ hi))
     simp [this,e]
    ·exact .inr ⟨k,c,e,z.sameBut hs (Kb y c e)⟩
  ·obtain⟨w',z⟩:=I.cell y c e
   exact⟨w',z.sameBut hs (Kb y c e)⟩
  ·obtain⟨e,n,ne,nf,d⟩:=I.pin p hp
   exact⟨(hs.2 p.1 ne).trans e,n,ne,nf,d⟩
 ·have Py:X.fn x=true:=by
   rcases hf with z|z
   ·exact z
   ·rw [z] at hk;cases hk
  obtain⟨c,F⟩:=I.ok.has x (.inl hk)
  obtain⟨w',z⟩:=I.cell x c F
  refine wpAny_storeName_cell I.ok.kind hk F z (fun h' Y hs=>?_)
  obtain⟨oc,Z,aaQ⟩:=id z
  refine h { s with heap:=h' } ⟨I.ok,I.os,I.bare,⟨fun b o e n L G=>?_,fun b o e n L G=>?_,I.base.free,fun b o e G=>?_,I.base.pj,I.base.oz,I.base.pw⟩,⟨m,hn.sameBut hs (aea (Kb x c F)),fun j y v' B J e3=>?_⟩,fun y c' e=>?_,I.free,I.iC,fun p hp=>?_,tracked ⟨oc,Z,I.iC x c F⟩ hs,by simpa using I.len⟩ ⟨c,hs,.inr F⟩
  ·exact(hs.2 b (abj (aa6 (aaA e) (I.ok.SY x c Py F)))).trans (I.base.keep b o e n L G)
  ·obtain⟨sl,B⟩:=I.base.slot b o e n L G
   exact⟨sl,(hs.2 b (abj (aa6 (aaA e) (I.ok.SY x c Py F)))).trans B⟩
  ·obtain⟨o',B⟩:=I.base.there b o e G
   exact⟨o',(hs.2 b (abj (aa6 (aaA e) (I.ok.SY x c Py F)))).trans B⟩
  ·by_cases O:j=i
   ·subst O
    rw [hi] at B;cases B
    rw [aed Y3] at J
    cases J
    exact⟨u,r,.inr ⟨.inl hk,c,F,Y⟩⟩
   ·rw [ags (aea O)] at J
    obtain⟨u',r',q⟩:=hl j y v' B J e3
    refine⟨u',r',?_⟩
    rcases q with q|⟨k,c',e,z'⟩
    ·exact .inl q
    ·refine .inr ⟨k,c',e,z'.sameBut hs ?_⟩
     rintro rfl
     exact O (vK hN B (I.ok.inj _ _ _ e F ▸ hi))
  ·by_cases VX:c'=c
   ·subst VX;exact⟨_,Y⟩
   ·obtain⟨w2,z2⟩:=I.cell y c' e
    exact⟨w2,z2.sameBut hs VX⟩
  ·obtain⟨e,n,ne,nf,d⟩:=I.pin p hp
   refine⟨(hs.2 p.1 ?_).trans e,n,ne,nf,d⟩
   intro q
   rw [q,Z] at e
   have q':oc=p.2:=abA e
   exact d w' (by rw [<- q'];exact aaQ)
theorem mn {M:Model} {A:abP} {E:aae->aah->Prop} {i:Nat} {x:Str} {v:V} {u:aae} {Q:Unit->aah->Prop} (I:Inv X pins σ H s) (z:X.N.Nodup) (hi:X.N[i]?=some x) (F:Loc X.env.scope x) (r:RelV v u)
  (h:∀s',Inv X pins (σ.set i (some v)) H s'->Q () s') (B:autoParam (X.fn x=true\/X.env.scope.names.lookup x=some .local) z3._auto_1):aby M A (storeName X.env x u) Q E s :=
 AF I z hi F r (fun s' q _=>h s' q) B
theorem Inv.VY {s':aah} {ch:List aay} (I:Inv X pins σ H s) (z:s'.os=s.os) (u:Un (jd X.stack) ch H H' s.heap s'.heap) (hok:mm X.prog X.w H' s'.heap) (q:AllBare s'.gens)
  (Pj:∀b∈ch,(b∈X.ex\/X.s₀.heap.objs.size<=b)/\b≠X.env.locals/\(∀x c,X.env.cells.lookup x=some c->c≠b)/\∀p∈X.pn++pins,p.1≠b):Inv X pins σ H' s':=by
 obtain⟨h',g',d',t',o'⟩:=s'
 have e:o'=s.os:=z
 subst e
 exact I.call (g':=g') (t':=t') (d':=d') u hok q Pj
end
abbrev XK:=aae->Option aay->Hp->Prop
abbrev St:=List (Option V)
abbrev VK:=V->Hp->Prop
abbrev TE:=St->Hp->VK->Prop
abbrev TT:=St->Hp->(Bool->Hp->Prop)->Prop
abbrev TA:=St->Hp->(List V->Hp->Prop)->Prop
structure Ends where
 nx:St->Hp->Prop
 rt:VK
 bk:St->Hp->Prop:=fun _ _=>False
 ct:St->Hp->Prop:=fun _ _=>False
abbrev TS:=Ends->St->Hp->Prop
def EP (X:Cx) (pins:List (aay × Obj)) (σ:St) (Q:VK) (u:aae) (s':aah):Prop:=∃v H',Inv X pins σ H' s'/\RelV v u/\Q v H'
def TP (X:Cx) (pins:List (aay × Obj)) (σ:St) (Q:Bool->Hp->Prop) (b:Bool) (s':aah):Prop:=∃H',Inv X pins σ H' s'/\Q b H'
def AP (X:Cx) (pins:List (aay × Obj)) (σ:St) (Q:List V->Hp->Prop) (us:List aae) (s':aah):Prop:=∃vs H',Inv X pins σ H' s'/\Vals vs us/\Q vs H'
def SP (X:Cx) (pins:List (aay × Obj)) (D:Ends) (f:Flow) (s':aah):Prop :=
 match f with
 | .next=>∃σ' H',Inv X pins σ' H' s'/\D.nx σ' H'
 | .brk=>∃σ' H',Inv X pins σ' H' s'/\D.bk σ' H'
 | .cont=>∃σ' H',Inv X pins σ' H' s'/\D.ct σ' H'
 | .ret u=>∃v σ' H',Inv X pins σ' H' s'/\RelV v u/\D.rt v H'
def PE (X:Cx) (e:Expr) (t:TE):Prop :=
 ∀(pins:List (aay × Obj)) (s:aah) (σ:St) (H:Hp) (Q:VK),Inv X pins σ H s->t σ H Q->aby (model X.prog X.w) X.A (eval e X.env) (EP X pins σ Q) X.xe s
def PT (X:Cx) (e:Expr) (t:TT):Prop :=
 ∀(pins:List (aay × Obj)) (s:aah) (σ:St) (H:Hp) (Q:Bool->Hp->Prop),Inv X pins σ H s->t σ H Q->aby (model X.prog X.w) X.A (isTrue e X.env (eval e X.env)) (TP X pins σ Q) X.xe s
def PW (X:Cx) (e:Expr) (t:TT):Prop :=
 ∀(whole:Sem aae) (pins:List (aay × Obj)) (s:aah) (σ:St) (H:Hp) (Q:Bool->Hp->Prop),Inv X pins σ H s->t σ H Q->aby (model X.prog X.w) X.A (isTrue e X.env whole) (TP X pins σ Q) X.xe s
theorem PW.pt {X:Cx} {e:Expr} {t:TT} (h:PW X e t):PT X e t:=h _
def PA (X:Cx) (es:List Expr) (t:TA):Prop :=
 ∀(pos:Pos) (pins:List (aay × Obj)) (s:aah) (σ:St) (H:Hp) (Q:List V->Hp->Prop),Inv X pins σ H s->t σ H Q->aby (model X.prog X.w) X.A (spliced (backTo pos (starEach es X.env))) (AP X pins σ Q) X.xe s
def PS (X:Cx) (st:Stmt) (t:TS):Prop :=
 ∀(pins:List (aay × Obj)) (s:aah) (σ:St) (H:Hp) (D:Ends),Inv X pins σ H s->t D σ H->aby (model X.prog X.w) X.A (exec st X.env) (SP X pins D) X.xe s
def AG (X:Cx) (st:List Stmt) (t:TS):Prop :=
 ∀(pins:List (aay × Obj)) (s:aah) (σ:St) (H:Hp) (D:Ends),Inv X pins σ H s->t D σ H->aby (model X.prog X.w) X.A (execs st X.env) (SP X pins D) X.xe s
theorem thn {α:Type} {t:Sem α} {Q q:α->aah->Prop} {M:Model} {A:abP} {E:aae->aah->Prop} {s:aah} (h:aby M A t Q E s) (z:∀a s,Q a s->q a s):aby M A t q E s:=wpAny_mono h z fun _ _ x=>x
section
variable {X:Cx}
theorem bin {a b:Expr} {ta tb:TE} (ha:PE X a ta) (q:PE X b tb) {pins:List (aay × Obj)} {s:aah} {σ:St} {H:Hp} {R:V->V->Hp->Prop} (I:Inv X pins σ H s) (h:ta σ H fun x H1=>tb σ H1 fun y U=>R x y U)
  {α:Type} {Q:α->aah->Prop} {f:aae->aae->Sem α}
  (z:∀v u s2 x y U,Inv X pins σ U s2->RelV x v->RelV y u->R x y U->aby (model X.prog X.w) X.A (f v u) Q X.xe s2) :
  aby (model X.prog X.w) X.A (eval a X.env) (fun v s₁=>aby (model X.prog X.w) X.A (eval b X.env) (fun u s₂=>aby (model X.prog X.w) X.A (f v u) Q X.xe s₂) X.xe s₁) X.xe s:=by
 refine thn (ha pins s σ H _ I h) fun v s1 Zq=>?_
 obtain⟨x,H1,I1,B,q1⟩:=Zq
 refine thn (q pins s1 σ H1 _ I1 q1) fun u s2 Zq=>?_
 obtain⟨y,U,I2,r2,q2⟩:=Zq
 exact z v u s2 x y U I2 B r2 q2
def Pz (i:Nat):TE:=fun σ H Q=>∃v,σ[i]?=some (some v)/\Q v H
def tC (v:V):TE:=fun _ H Q=>Q v H
theorem S0 {i:Nat} {x:Str} {pos:Pos} (B:X.N[i]?=some x) (F:Y1 X.env.scope x) (hd:autoParam ((x == ("__debug__":Str))=false) z1._auto_1) (q:autoParam ((x == ("__classdict__":Str))=false) z1._auto_1):PE X (.Name x pos) (Pz i):=by
 intro pins s σ H Q I h
 obtain⟨v,e,h⟩:=h
 obtain⟨m,hn,hl⟩:=I.loc
 obtain⟨u,r,l⟩:=hl i x v B e F
 have fin:EP X pins σ Q u s:=⟨v,H,I,r,h⟩
 rcases l with⟨hk,hm⟩|⟨hk,c,z,hcell⟩
 ·exact wpAny_Name (wpAny_loadName_local I.ok.kind hk hn hm fin) hd
 ·rcases hk with hk|hk
  ·exact wpAny_Name (wpAny_loadName_cell I.ok.kind hk z hcell fin) hd
  ·exact wpAny_Name (wpAny_loadName_free I.ok.kind hk z hcell fin q) hd
theorem ae {i j pos}:PE X (.Constant (.int i) j pos) (tC (.int i)):=fun _ _ _ H _ I h=>wpAny_Constant_int ⟨.int i,H,I.tok _,⟨_,rfl⟩,h⟩
theorem fB {b j pos}:PE X (.Constant (.bool b) j pos) (tC (.bl b)):=fun _ _ _ H _ I h=>Constant_bool ⟨.bl b,H,I,rfl,h⟩
theorem S1 {j pos}:PE X (.Constant .none j pos) (tC .cg):=fun _ _ _ H _ I h=>Constant_none ⟨.cg,H,I,rfl,h⟩
theorem aP {x j pos}:PE X (.Constant (.str x) j pos) (tC (.str x)):=fun _ _ _ H _ I h=>ah3 ⟨.str x,H,I.tok _,⟨_,rfl⟩,h⟩
def Gl (X:Cx) (x:Str):Prop:=X.env.kindOf x=some .globalImplicit
theorem nZ {E:aae->aah->Prop} {pins:List (aay × Obj)} {s:aah} {σ:St} {H:Hp} {x:Str} {u:aae} {pos:Pos} {Q:aae->aah->Prop} (I:Inv X pins σ H s) (q:Gl X x) (hm:X.mg x=some u) (h:Q u s)
  (hd:autoParam ((x == ("__debug__":Str))=false) z1._auto_1):aby (model X.prog X.w) X.A (eval (.Name x pos) X.env) Q E s :=
 agB I.ok.kind q (Calls.loadGlobal_global (by rw [I.ok.glob];exact I.mod.glob.keeps I.bk) hm h) hd
theorem pA {E:aae->aah->Prop} {pins:List (aay × Obj)} {s:aah} {σ:St} {H:Hp} {x:Str} {u:aae} {pos:Pos} {Q:aae->aah->Prop} (I:Inv X pins σ H s) (q:Gl X x) (hm:X.mg x=none) (z:bootBuiltins x=some u) (h:Q u s)
  (hn:autoParam (x≠"__name__") z1._auto_1) (hd:autoParam ((x == ("__debug__":Str))=false) z1._auto_1):aby (model X.prog X.w) X.A (eval (.Name x pos) X.env) Q E s:=by
 obtain⟨mb,h1,h2⟩:=I.mod.blt
 exact agB I.ok.kind q (Calls.loadGlobal_builtin (by rw [I.ok.glob];exact I.mod.glob.keeps I.bk) hm (by rw [I.ok.blt];exact h1.keeps I.bk) ((h2 x hn).trans z) h) hd
theorem cb {x:Str} {v:V} {u:aae} {pos:Pos} (q:Gl X x) (hm:X.mg x=some u) (r:RelV v u) (hd:autoParam ((x == ("__debug__":Str))=false) z1._auto_1):PE X (.Name x pos) (tC v) :=
 fun _ _ _ H _ I h=>nZ I q hm ⟨v,H,I,r,h⟩ hd
theorem IW {x:Str} {v:V} {u:aae} {pos:Pos} (q:Gl X x) (hm:X.mg x=none) (z:bootBuiltins x=some u) (r:RelV v u) (hn:autoParam (x≠"__name__") z1._auto_1) (hd:autoParam ((x == ("__debug__":Str))=false) z1._auto_1):PE X (.Name x pos) (tC v) :=
 fun _ _ _ H _ I h=>pA I q hm z ⟨v,H,I,r,h⟩ hn hd
variable {a b:Expr} {ta tb:TE} {pos:Pos}
def PC (X:Cx) (op:CmpOp) (a b:Expr) (t:TE):Prop :=
 ∀(pins:List (aay × Obj)) (s:aah) (σ:St) (H:Hp) (Q:VK),Inv X pins σ H s->t σ H Q ->
  aby (model X.prog X.w) X.A (eval a X.env) (fun v s₁=>aby (model X.prog X.w) X.A (eval b X.env) (fun u s₂=>aby (model X.prog X.w) X.A (compareOp op v u) (EP X pins σ Q) X.xe s₂) X.xe s₁) X.xe s
theorem MA (b:Expr) {op:CmpOp} (h:op≠.In) (h2:op≠.NotIn):behindInMarks op b=false:=by
 have q:(op == CmpOp.In)=false:=by cases op <;> first|rfl|exact absurd rfl h
 have z:(op == CmpOp.NotIn)=false:=by cases op <;> first|rfl|exact absurd rfl h2
 cases b <;> simp [behindInMarks,q,z]
def tB (t:TE):TT:=fun σ H Q=>t σ H fun x H1=>∃c,x=.bl c/\Q c H1
theorem GB {op:CmpOp} {t:TE} (h:PC X op a b t) (h1:behindInMarks op b=false:=by first|exact MA _ (by decide) (by decide)|rfl):PT X (.Compare a [op] [b] pos) (tB t):=by
 intro pins s σ H Q I z
 refine wpAny_isTrue_Compare1 (thn (h pins s σ H _ I z) fun v s1 h1=>thn h1 fun u s2 h2=>thn h2 fun c s3 Zq=>?_) h1
 obtain⟨x,H1,I1,B,q1⟩:=Zq
 obtain⟨d,rfl,q⟩:=q1
 cases B
 exact wpAny_truthy_bool ⟨H1,I1,q⟩
theorem bU {e:Expr} {t:TE} (h:PE X e t) (z:autoParam (∀whole,isTrue e X.env whole=(do let v <- whole;standAt e.pos;holding [v] (truthy v))) z4._auto_1):PT X e (tB t):=by
 intro pins s σ H Q I B
 refine isTrue_plain (thn (h pins s σ H _ I B) fun v s1 Zq=>?_) (z _)
 obtain⟨x,H1,I1,F,q1⟩:=Zq
 obtain⟨d,rfl,q⟩:=q1
 cases F
 exact wpAny_truthy_bool ⟨H1,I1,q⟩
variable {tA Y5:TT} {a9:List Expr}
def aaR (t u:TT):TT:=fun σ H Q=>t σ H fun c H1=>if c=true then u σ H1 Q else Q false H1
def tOr (t u:TT):TT:=fun σ H Q=>t σ H fun c H1=>if c=true then Q true H1 else u σ H1 Q
def aaS (t:TT):TT:=fun σ H Q=>t σ H fun c H1=>Q (!c) H1
theorem je (ha:PT X a tA):PW X (.BoolOp .And [a] pos) tA:=by
 intro wh pins s σ H Q I h
 refine isTrue_and (thn (ha pins s σ H Q I h) fun c s1 e=>?_)
 cases c with
 | true=>exact isTrue_and_nil e
 | false=>exact e
theorem mq (ha:PT X a tA):PW X (.BoolOp .Or [a] pos) tA:=by
 intro wh pins s σ H Q I h
 refine isTrue_or (thn (ha pins s σ H Q I h) fun c s1 e=>?_)
 cases c with
 | false=>exact isTrue_or_nil e
 | true=>exact e
theorem mr (ha:PT X a tA) (q:PW X (.BoolOp .And (b::a9) pos) Y5):PW X (.BoolOp .And (a::b::a9) pos) (aaR tA Y5):=by
 intro wh pins s σ H Q I h
 refine isTrue_and (thn (ha pins s σ H _ I h) fun c s1 Zq=>?_)
 obtain⟨H1,I1,q1⟩:=Zq
 cases c with
 | true=>exact q wh pins s1 σ H1 Q I1 q1
 | false=>exact⟨H1,I1,q1⟩
theorem oF (ha:PT X a tA) (q:PW X (.BoolOp .Or (b::a9) pos) Y5):PW X (.BoolOp .Or (a::b::a9) pos) (tOr tA Y5):=by
 intro wh pins s σ H Q I h
 refine isTrue_or (thn (ha pins s σ H _ I h) fun c s1 Zq=>?_)
 obtain⟨H1,I1,q1⟩:=Zq
 cases c with
 | true=>exact⟨H1,I1,q1⟩
 | false=>exact q wh pins s1 σ H1 Q I1 q1
theorem fK (ha:PT X a tA):PT X (.UnaryOp .Not a pos) (aaS tA):=by
 intro pins s σ H Q I h
 exact isTrue_not (ha pins s σ H (fun c H1=>Q (!c) H1) I h)
def VZ (ta tb:TE):TE:=fun σ H Q=>ta σ H fun x H1=>∃c,x=.bl c/\if c=true then tb σ H1 Q else Q (.bl false) H1
def aaT (ta tb:TE):TE:=fun σ H Q=>ta σ H fun x H1=>∃c,x=.bl c/\if c=true then Q (.bl true) H1 else tb σ H1 Q
def V0 (ta:TE):TE:=fun σ H Q=>ta σ H fun x H1=>∃c,x=.bl c/\Q (.bl (!c)) H1
theorem pB {op} {t:TE} (h:PE X a t):PE X (.BoolOp op [a] pos) t:=fun pins s σ H Q I q=>BoolOp_one (h pins s σ H Q I q)
theorem pC (ha:PE X a ta) (q:PE X (.BoolOp .And (b::a9) pos) tb):PE X (.BoolOp .And (a::b::a9) pos) (VZ ta tb):=by
 intro pins s σ H Q I h
 refine BoolOp_and (thn (ha pins s σ H _ I h) fun v s1 Zq=>?_)
 obtain⟨x,H1,I1,z,q1⟩:=Zq
 obtain⟨c,rfl,q1⟩:=q1
 cases z
 refine wpAny_truthy_bool ?_
 cases c with
 | true=>exact q pins s1 σ H1 Q I1 q1
 | false=>exact⟨.bl false,H1,I1,rfl,q1⟩
theorem MB (ha:PE X a ta) (q:PE X (.BoolOp .Or (b::a9) pos) tb):PE X (.BoolOp .Or (a::b::a9) pos) (aaT ta tb):=by
 intro pins s σ H Q I h
 refine BoolOp_or (thn (ha pins s σ H _ I h) fun v s1 Zq=>?_)
 obtain⟨x,H1,I1,z,q1⟩:=Zq
 obtain⟨c,rfl,q1⟩:=q1
 cases z
 refine wpAny_truthy_bool ?_
 cases c with
 | false=>exact q pins s1 σ H1 Q I1 q1
 | true=>exact⟨.bl true,H1,I1,rfl,q1⟩
theorem vL (ha:PE X a ta):PE X (.UnaryOp .Not a pos) (V0 ta):=by
 intro pins s σ H Q I h
 refine UnaryOp_ (thn (ha pins s σ H _ I h) fun v s1 Zq=>?_)
 obtain⟨x,H1,I1,q,q1⟩:=Zq
 obtain⟨c,rfl,q1⟩:=q1
 cases q
 exact not_of (wpAny_truthy_bool ⟨.bl (!c),H1,I1,rfl,q1⟩)
end
def aC (K:aaa) (H:Hp) (a:aay) (xs:List V):Prop :=
 Rd H a (.lst xs) \/
  ∃(o:Obj) (its:Array aae) (n:Nat),K.lookup a=some o/\o.cls=.type "list"/\o.dict=none/\o.data=.seq its n/\its.size<=aaj/\xs.all V.pl=true/\Vals xs its.toList
def bH (K:aaa) (H:Hp) (a:aay) (xs:List V):Prop :=
 Rd H a (.tup xs) \/
  ∃(o:Obj) (its:Array aae) (n:Nat),K.lookup a=some o/\o.cls=.type "tuple"/\o.data=.seq its n/\its.size<=aaj/\xs.all V.pl=true/\Vals xs its.toList
noncomputable def aaU:aae->Option V
 | .none=>some .cg
 | .bool b=>some (.bl b)
 | .int i _=>some (.int i)
 | .str x _=>some (.str x)
 | .bytes b _=>some (.Mi b)
 | .float b _=>some (.SW b)
 | .ref a=>some (.ref a)
 | .type n=>some (.ty n)
 | _=>none
theorem RelV.abs {x:V} {u:aae} (r:RelV x u) (q:x.pl=true):aaU u=some x:=by
 cases x with
 | tok _ _=>cases q
 | cg=>cases r;rfl
 | bl _=>cases r;rfl
 | int _=>obtain⟨t,rfl⟩:=r;rfl
 | str _=>obtain⟨t,rfl⟩:=r;rfl
 | Mi _=>obtain⟨t,rfl⟩:=r;rfl
 | SW _=>obtain⟨t,rfl⟩:=r;rfl
 | ref _=>cases r;rfl
 | ty _=>cases r;rfl
theorem RelV.inj {x y:V} {u:aae} (r:RelV x u) (q:RelV y u) (z:x.pl=true) (B:y.pl=true):x=y:=abA ((r.abs z).symm.trans (q.abs B))
theorem Vals.inj:∀{xs ys:List V} {us:List aae},Vals xs us->Vals ys us->xs.all V.pl=true->ys.all V.pl=true->xs=ys
 | _,_,_,.nil,.nil,_,_=>rfl
 | _,_,_,.cons r t,.cons q t',h,h'=>by
  rw [ab6,abg] at h h'
  rw [r.inj q h.1 h'.1,Vals.inj t t' h.2 h'.2]
section
variable {X:Cx} {pins:List (aay × Obj)} {σ:St} {H:Hp} {s:aah} {a:aay} {xs ys:List V}
theorem aC.of {K:aaa} (h:H a=some (.lst xs)):aC K H a xs:=.inl (.inl h)
theorem bH.of {K:aaa} (h:H a=some (.tup xs)):bH K H a xs:=.inl (.inl h)
theorem Inv.list (I:Inv X pins σ H s) (h:aC X.K H a xs):∃its:List aae,Vals xs its/\PlainL s.heap a its.toArray/\xs.length<=aaj:=by
 rcases h with h|⟨o,its,n,hk,q,hd,hs,hz,_,r⟩
 ·obtain⟨z,its,n,r,e⟩:=h.ok I.hok
  exact⟨its,r,⟨_,n,e,rfl,rfl,rfl⟩,z⟩
 ·refine⟨its.toList,r,⟨o,n,I.oE a o hk,q,hd,by simpa using hs⟩,?_⟩
  have e:=r.length
  simp only [adF] at e
  omega
theorem Inv.tuple (I:Inv X pins σ H s) (h:bH X.K H a xs):∃its:List aae,Vals xs its/\IsTup s.heap a its.toArray/\xs.length<=aaj:=by
 rcases h with h|⟨o,its,n,hk,q,hs,hz,_,r⟩
 ·obtain⟨z,its,r,p⟩:=h.ok I.hok
  exact⟨its,r,p,z⟩
 ·refine⟨its.toList,r,⟨o,I.oE a o hk,q,n,by simpa using hs⟩,?_⟩
  have e:=r.length
  simp only [adF] at e
  omega
theorem Rd.none {u:HO} (h:Rd H a u) (z:H a=ahQ):False:=by
 rcases h with h|⟨o,h⟩
 ·rw [z] at h;cases h
 ·rw [z] at h;cases h
theorem Inv.kH (I:Inv X pins σ H s) {o:Obj} (h:X.K.lookup a=some o):H a=ahQ:=(I.bs a o (I.ok.mod.Px a o h)).2
theorem Inv.Ek (I:Inv X pins σ H s) (h:aC X.K H a xs) (h':aC X.K H a ys):xs=ys:=by
 rcases h with h|⟨o,its,n,hk,Y,hd,hs,hz,L,r⟩ <;> rcases h' with h'|⟨o',its',Z,q,G,J,z,O,B,V⟩
 ·rcases h with h|⟨o,h⟩ <;> rcases h' with h'|⟨o',h'⟩ <;> rw [h] at h' <;> cases h' <;> rfl
 ·exact(h.none (I.kH q)).elim
 ·exact(h'.none (I.kH hk)).elim
 ·rw [hk] at q;cases q
  rw [hs] at z
  injection z with F _
  subst F
  exact r.inj V L B
theorem Inv.rW (I:Inv X pins σ H s) (h:bH X.K H a xs) (h':bH X.K H a ys):xs=ys:=by
 rcases h with h|⟨o,its,n,hk,V,hs,hz,J,r⟩ <;> rcases h' with h'|⟨o',its',Y,q,G,z,L,B,O⟩
 ·rcases h with h|⟨o,h⟩ <;> rcases h' with h'|⟨o',h'⟩ <;> rw [h] at h' <;> cases h' <;> rfl
 ·exact(h.none (I.kH q)).elim
 ·exact(h'.none (I.kH hk)).elim
 ·rw [hk] at q;cases q
  rw [hs] at z
  injection z with F _
  subst F
  exact r.inj O J B
end
noncomputable abbrev Cx.yQ (X:Cx) (E:aae->aah->Prop):Cx:={ X with xe:=E }
noncomputable abbrev Cx.Y6 (X:Cx):Cx:=X.yQ fun _ _=>False
theorem Cx.Ok.yQ {X:Cx} (ok:X.Ok) (E:aae->aah->Prop):(X.yQ E).Ok :=
 ⟨ok.mod,ok.kind,ok.glob,ok.blt,ok.above,ok.inj,ok.has,ok.SY,ok.hd,ok.frames,ok.Vm,ok.exf,ok.bs,ok.Pg,ok.Ka,ok.Mz,ok.qd,ok.Ph⟩
theorem Cx.Ok.mv {X:Cx} {E:aae->aah->Prop} (ok:(X.yQ E).Ok):X.Ok :=
 ⟨ok.mod,ok.kind,ok.glob,ok.blt,ok.above,ok.inj,ok.has,ok.SY,ok.hd,ok.frames,ok.Vm,ok.exf,ok.bs,ok.Pg,ok.Ka,ok.Mz,ok.qd,ok.Ph⟩
section
variable {X:Cx} {pins:List (aay × Obj)} {σ:St} {H:Hp} {s:aah} {E:aae->aah->Prop}
theorem Inv.yQ (I:Inv X pins σ H s) (E:aae->aah->Prop):Inv (X.yQ E) pins σ H s:=⟨I.ok.yQ E,I.os,I.bare,I.base,I.loc,I.cell,I.free,I.iC,I.pin,I.hok,I.len⟩
theorem Inv.mv (I:Inv (X.yQ E) pins σ H s):Inv X pins σ H s:=⟨I.ok.mv,I.os,I.bare,I.base,I.loc,I.cell,I.free,I.iC,I.pin,I.hok,I.len⟩
theorem SP.mv {D:Ends} {f:Flow} {s':aah} (h:SP (X.yQ E) pins D f s'):SP X pins D f s':=by
 cases f with
 | next=>obtain⟨σ',H',I,q⟩:=h;exact⟨σ',H',I.mv,q⟩
 | brk=>obtain⟨σ',H',I,q⟩:=h;exact⟨σ',H',I.mv,q⟩
 | cont=>obtain⟨σ',H',I,q⟩:=h;exact⟨σ',H',I.mv,q⟩
 | ret u=>obtain⟨v,σ',H',I,r,q⟩:=h;exact⟨v,σ',H',I.mv,r,q⟩
theorem AG.Y6 {st:List Stmt} {t:TS} (h:AG X.Y6 st t):AG X st t:=fun pins s σ H D I B =>
 wpAny_mono (h pins s σ H D (I.yQ _) B) (fun _ _ q=>q.mv) fun _ _ z=>ac8 z
end
section
variable {X:Cx} {st:Stmt} {a9:List Stmt} {t u:TS} {e:Expr} {te:TE} {pos:Pos}
def RN:TS:=fun D σ H=>D.nx σ H
def S2 (t u:TS):TS:=fun D σ H=>t { D with nx:=u D } σ H
theorem aF:AG X [] RN:=fun _ _ σ H _ I h=>wpAny_execs_nil ⟨σ,H,I,h⟩
theorem ag (h1:PS X st t) (h2:AG X a9 u):AG X (st::a9) (S2 t u):=by
 intro pins s σ H D I h
 refine wpAny_execs_cons (thn (h1 pins s σ H { D with nx:=u D } I h) fun f s1 q=>?_)
 cases f with
 | next =>
  obtain⟨σ',H',z,q⟩:=q
  exact h2 pins s1 σ' H' D z q
 | ret v=>exact q
 | brk=>exact q
 | cont=>exact q
theorem ak (h1:PS X st t):AG X [st] t:=by
 intro pins s σ H D I h
 refine wpAny_execs_cons (thn (h1 pins s σ H D I h) fun f s1 q=>?_)
 cases f with
 | next=>exact wpAny_execs_nil q
 | ret v=>exact q
 | brk=>exact q
 | cont=>exact q
def V1:TS:=fun D σ H=>D.ct σ H
theorem El:PS X (.Continue pos) V1:=fun _ _ σ H _ I h=>wpAny_Continue ⟨σ,H,I,h⟩
theorem Inv.quiet {pins:List (aay × Obj)} {σ:St} {H:Hp} {s:aah} (I:Inv X pins σ H s):interactive X.env=false:=by simp [interactive,I.ok.kind]
def V2 (te:TE):TS:=fun D σ H=>te σ H fun _ H1=>D.nx σ H1
theorem bp (q:PE X e te) (hs:autoParam (swapsWith e none pos.line X.env=pure false) z0._auto_1):PS X (.Expr e pos) (V2 te):=by
 intro pins s σ H D I h
 exact wpAny_Expr_any (thn (q pins s σ H _ I h) fun v s1 ⟨x,H1,I1,z,q1⟩=>⟨σ,H1,I1,q1⟩) I.quiet hs
def V3 (te:TE):TS:=fun D σ H=>te σ H D.rt
theorem aG (q:PE X e te):PS X (.Return (some e) pos) (V3 te):=by
 intro pins s σ H D I h
 exact wpAny_Return_some (thn (q pins s σ H _ I h) fun v s1 ⟨x,H1,I1,z,q1⟩=>⟨x,σ,H1,I1,z,q1⟩)
def V4:TS:=fun D _ H=>D.rt .cg H
theorem PB:PS X (.Return none pos) V4:=fun _ _ σ H _ I h=>wpAny_Return_none ⟨.cg,σ,H,I,rfl,h⟩
def aaV (c:TT) (t u:TS):TS:=fun D σ H=>c σ H fun b H1=>if b=true then t D σ H1 else u D σ H1
theorem aU {c:Expr} {a b:List Stmt} {tc:TT} (z:PT X c tc) (ha:AG X a t) (q:AG X b u):PS X (.If c a b pos) (aaV tc t u):=by
 intro pins s σ H D I h
 refine wpAny_If (thn (z pins s σ H _ I h) fun d s1 Zq=>?_)
 obtain⟨H1,I1,q1⟩:=Zq
 cases d with
 | true=>exact ha pins s1 σ H1 D I1 q1
 | false=>exact q pins s1 σ H1 D I1 q1
def MC:TS:=fun _ _ _=>False
theorem MD:PS X st MC:=fun _ _ _ _ _ _ h=>h.elim
theorem bq {sts:List Stmt}:AG X sts MC:=fun _ _ _ _ _ _ h=>h.elim
end
abbrev TG:=V->St->Hp->(St->Hp->Prop)->Prop
abbrev S3:=List V->St->Hp->(St->Hp->Prop)->Prop
def PG (X:Cx) (target:Expr) (t:TG):Prop :=
 ∀(pins:List (aay × Obj)) (s:aah) (σ:St) (H:Hp) (v:V) (u:aae) (Q:St->Hp->Prop),Inv X pins σ H s->RelV v u->t v σ H Q ->
  aby (model X.prog X.w) X.A (assign target X.env u) (fun _ s'=>∃σ' H',Inv X pins σ' H' s'/\Q σ' H') X.xe s
def Y7 (X:Cx) (ts:List Expr) (t:S3):Prop :=
 ∀(pins:List (aay × Obj)) (s:aah) (σ:St) (H:Hp) (vs:List V) (us:List aae) (Q:St->Hp->Prop),Inv X pins σ H s->Vals vs us->t vs σ H Q ->
  aby (model X.prog X.w) X.A (assignInOrder ((assignEach ts X.env).map (·.2)) us) (fun _ s'=>∃σ' H',Inv X pins σ' H' s'/\Q σ' H') X.xe s
abbrev Y8:=V->V->Hp->VK->Prop
def PIp (X:Cx) (op:Operator) (t:Y8):Prop :=
 ∀(pins:List (aay × Obj)) (s:aah) (σ:St) (H:Hp) (x y:V) (v u:aae) (Q:VK),Inv X pins σ H s->RelV x v->RelV y u->t x y H Q ->
  aby (model X.prog X.w) X.A (inplaceOp op v u) (EP X pins σ Q) X.xe s
section
variable {X:Cx} {pos:Pos}
def AH (i:Nat):TG:=fun v σ H Q=>Q (σ.set i (some v)) H
theorem bj {i:Nat} {x:Str} (z:X.N.Nodup) (hi:X.N[i]?=some x) (F:Loc X.env.scope x) (B:autoParam (X.fn x=true\/X.env.scope.names.lookup x=some .local) z3._auto_1):PG X (.Name x pos) (AH i):=by
 intro pins s σ H v u Q I r h
 exact wpAny_assign_Name (mn I z hi F r (fun s' q=>⟨_,H,q,h⟩) B)
def aaW:S3:=fun vs σ H Q=>vs=[]/\Q σ H
def V5 (t:TG) (u:S3):S3:=fun vs σ H Q=>∃v r,vs=v::r/\t v σ H fun σ' H'=>u r σ' H' Q
theorem IX:Y7 X [] aaW:=by
 intro pins s σ H vs us Q I r h
 obtain⟨e,h⟩:=h
 subst e
 cases r
 exact assignInOrder_nil ⟨σ,H,I,h⟩
theorem jI {e:Expr} {es:List Expr} {t:TG} {u:S3} (h1:PG X e t) (h2:Y7 X es u)
  (hs:autoParam ((assignEach (e::es) X.env).map (·.2)=assign e X.env::(assignEach es X.env).map (·.2)) z0._auto_1):Y7 X (e::es) (V5 t u):=by
 intro pins s σ H vs us Q I r h
 obtain⟨v,vr,q,h⟩:=h
 subst q
 cases r with
 | cons r rr =>
  rw [hs]
  refine assignInOrder_cons (thn (h1 pins s σ H _ _ _ I r h) fun _ s1 Zq=>?_)
  obtain⟨σ1,H1,I1,q1⟩:=Zq
  exact h2 pins s1 σ1 H1 _ _ Q I1 rr q1
def aaX (K:aaa) (n:Nat) (t:S3):TG:=fun v σ H Q=>∃a xs,v=.ref a/\bH K H a xs/\xs.length=n/\t xs σ H Q
theorem ME {es:List Expr} {k:Nat} {t:S3} {n:Nat} (B:X.calm=true) (h:Y7 X es t)
  (hn:autoParam ((assignEach es X.env).length=n) z0._auto_1) (vM:autoParam ((assignEach es X.env).findIdx? (·.1)=none) z0._auto_1):PG X (.Tuple es k pos) (aaX X.K n t):=by
 intro pins s σ H v u Q I r q
 obtain⟨a,xs,z,F,hl,q⟩:=q
 subst z
 cases r
 obtain⟨its,rv,G,hz⟩:=I.tuple F
 refine assign_Tuple_tuple (I.ok.hd B) G (by simp [hn,<- hl,rv.length]) vM fun h' J=>?_
 have I1:Inv X pins σ H { s with heap:=h' }:=I.kept (t':=s.toks) fun b o e=>J b o (abj (aaA e)) e
 exact h pins _ σ H xs _ Q I1 (by simpa using rv) q
def PD (te:TE) (g:TG):TS:=fun D σ H=>te σ H fun x H1=>g x σ H1 D.nx
theorem S4 {tg e:Expr} {te:TE} {g:TG} (z:PE X e te) (B:PG X tg g) (hs:autoParam (swapsWithSole [tg] e pos.line X.env=pure false) z0._auto_1) (F:autoParam (swappedStores [tg] e X.env=pure none) z0._auto_1)
  (h1:autoParam ((assignEach [tg] X.env).map (·.2)=[assign tg X.env]) z0._auto_1):PS X (.Assign [tg] e pos) (PD te g):=by
 intro pins s σ H D I h
 refine wpAny_Assign_stores (thn (z pins s σ H _ I h) fun v s1 Zq=>?_) hs F
 obtain⟨x,H1,I1,G,q1⟩:=Zq
 rw [h1]
 exact thn (B pins s1 σ H1 x v _ I1 G q1) fun _ s2 q=>q
theorem az {i:Nat} {x:Str} {e:Expr} {te:TE} {f8:Pos} (q:X.N.Nodup) (hi:X.N[i]?=some x) (F:Loc X.env.scope x) (z:PE X e te) (hs:autoParam (swapsWith e (some (.Name x f8)) pos.line X.env=pure false) z0._auto_1) (B:autoParam (X.fn x=true\/X.env.scope.names.lookup x=some .local) z3._auto_1) :
  PS X (.Assign [.Name x f8] e pos) (PD te (AH i)):=by
 intro pins s σ H D I h
 refine wpAny_Assign_Name (thn (z pins s σ H _ I h) fun v s1 Zq=>?_) hs
 obtain⟨y,H1,I1,G,q1⟩:=Zq
 exact mn I1 q hi F G (fun s2 I2=>⟨_,H1,I2,q1⟩) B
def aaY (i:Nat) (te:TE) (ti:Y8):TS:=fun D σ H=>∃x,σ[i]?=some (some x)/\te σ H fun y H1=>ti x y H1 fun z U=>D.nx (σ.set i (some z)) U
theorem BO {i:Nat} {x:Str} {e:Expr} {te:TE} {op:Operator} {ti:Y8} {f8:Pos} (F:X.N.Nodup) (hi:X.N[i]?=some x) (q:Loc X.env.scope x) (J:PE X e te) (O:PIp X op ti) (L:autoParam (X.fn x=true\/X.env.scope.names.lookup x=some .local) z3._auto_1) :
  PS X (.AugAssign (.Name x f8) op e pos) (aaY i te ti):=by
 intro pins s σ H D I h
 obtain⟨v,B,h⟩:=h
 obtain⟨m,hn,hl⟩:=I.loc
 have vis:Y1 X.env.scope x:=by rcases q with k|k;exact .inl k;exact .inr (.inl k)
 obtain⟨u,r,l⟩:=hl i x v hi B vis
 refine wpAny_AugAssign_Name ?_
 have go:aby (model X.prog X.w) X.A (eval e X.env) (fun w s₂=>aby (model X.prog X.w) X.A (inplaceOp op u w) (fun r s₃=>aby (model X.prog X.w) X.A (storeName X.env x r) (fun _=>SP X pins D .next) X.xe s₃) X.xe s₂) X.xe s:=by
  refine thn (J pins s σ H _ I h) fun w s1 Zq=>?_
  obtain⟨y,H1,I1,V,q1⟩:=Zq
  refine thn (O pins s1 σ H1 v y u w _ I1 r V q1) fun z s2 Zq=>?_
  obtain⟨Y,U,I2,r2,q2⟩:=Zq
  exact mn I2 F hi q r2 (fun s3 I3=>⟨_,U,I3,q2⟩) L
 rcases l with⟨hk,hm⟩|⟨hk,c,G,hcell⟩
 ·exact wpAny_loadName_local I.ok.kind hk hn hm go
 ·rcases hk with hk|hk
  ·exact wpAny_loadName_cell I.ok.kind hk G hcell go
  ·rcases q with k|k
   ·have:X.env.scope.names.lookup x=some .free:=hk
    rw [k] at this;cases this
   ·have:X.env.scope.names.lookup x=some .free:=hk
    rw [k] at this;cases this
def ipI (f:Int->Int->Int):Y8:=fun x y H Q=>∃i j,x=.int i/\y=.int j/\Q (.int (f i j)) H
theorem BP:PIp X .Add (ipI fun i j=>i+j):=by
 intro pins s σ H x y v u Q I F r2 h
 obtain⟨i,j,z,B,q⟩:=h
 subst z;subst B
 obtain⟨t,rfl⟩:=F
 obtain⟨t',rfl⟩:=r2
 exact iadd_int ⟨.int _,H,I.tok _,⟨_,rfl⟩,q⟩
end
section
variable {X:Cx} {pos:Pos}
def S5 (c:TT) (tb:TS):TS:=fun D σ H=>∃W:Nat->St->Hp->Prop,(∃m,W m σ H)/\∀m σ H,W m σ H ->
 c σ H fun b H1=>if b=true then ∃N:St->Hp->Prop,(∀σ' H',N σ' H'->∃q,q<m/\W q σ' H')/\tb { D with nx:=N,ct:=N,bk:=D.nx } σ H1 else D.nx σ H1
theorem qe {c:Expr} {body:List Stmt} {tc:TT} {tb:TS} (F:PassesOwn (model X.prog X.w) X.A X.env X.xe) (J:PT X c tc) (G:AG X body tb):PS X (.While c body [] pos) (S5 tc tb):=by
 intro pins s σ H D I h
 obtain⟨W,⟨L,O⟩,turn⟩:=h
 refine wpAny_While (codeAny_whileLoop (fun n s'=>∃σ' H',Inv X pins σ' H' s'/\W n σ' H') ?_ L ⟨σ,H,I,O⟩)
 rintro n s1 ⟨σ1,H1,I1,V⟩
 refine wpAny_passesOwn F (thn (J pins s1 σ1 H1 _ I1 (turn n σ1 H1 V)) fun b s2 Zq=>?_)
 obtain⟨U,I2,q2⟩:=Zq
 cases b with
 | true =>
  obtain⟨N,B,q2⟩:=q2
  rw [if_pos rfl]
  refine wpAny_passesOwn F (thn (G pins s2 σ1 U _ I2 q2) fun f s3 q3=>?_)
  cases f with
  | next =>
   obtain⟨σ3,H3,I3,n3⟩:=q3
   obtain⟨q,hm,z⟩:=B σ3 H3 n3
   exact⟨q,hm,σ3,H3,I3,z⟩
  | cont =>
   obtain⟨σ3,H3,I3,n3⟩:=q3
   obtain⟨q,hm,z⟩:=B σ3 H3 n3
   exact⟨q,hm,σ3,H3,I3,z⟩
  | brk=>exact q3
  | ret v=>exact q3
 | false =>
  rw [if_neg aaZ]
  exact wpAny_execs_nil ⟨σ1,U,I2,q2⟩
end
structure It where
 go:Nat->Hp->Prop
 RO:Nat->Hp->V->Hp->Prop
 stop:Nat->Hp->Prop
def yR (X:Cx) (pins:List (aay × Obj)) (H:Hp) (b:aay):Prop :=
 H b=none/\b≠X.env.locals/\b∉X.fs/\(b∈X.ex\/X.s₀.heap.objs.size<=b)/\(∀x c,X.env.cells.lookup x=some c->c≠b)/\∀p∈X.pn++pins,p.1≠b
theorem Inv.Kc {X:Cx} {pins:List (aay × Obj)} {σ:St} {H H':Hp} {s:aah} {b:aay} (I:Inv X pins σ H s) (B:s.heap.objs.size<=b) (hn:H' b=none):yR X pins H' b:=by
 refine⟨hn,adz (aa6 I.lt B),I.aaM B,.inr (ab0 I.sz B),fun x c e z=>?_,fun p F z=>?_⟩
 ·obtain⟨v,q⟩:=I.cell x c e
  exact absurd (aa6 q.lt (by rw [z];exact B)) (adJ _)
 ·exact absurd (aa6 (aaA (I.pin p F).1) (by rw [z];exact B)) (adJ _)
structure Turn (P:abn) (w:abU) (K:aaa) (tg:Expr) (J:It) (fp:List aay) (it:aay) (tn:Nat->Heap->Prop):Prop where
 mem:it∈fp
 obj:∀i h,tn i h->∀b∈fp,∃o,h.get? b=some o/\∀v,o.data≠.cell v
 keep:∀i h h',tn i h->(∀b∈fp,∀o,h.get? b=some o->h'.get? b=some o)->tn i h'
 item:∀(X:Cx),X.prog=P->X.w=w->X.K=K->X.calm=true->∀(i:Nat) (pins:List (aay × Obj)) (s:aah) (σ:St) (H:Hp) (E:aae->aah->Prop),Inv X pins σ H s->(∀b∈fp,yR X pins H b)->tn i s.heap->J.go i H ->
  aby (model P w) X.A (pyNext (.ref it)) (fun r s1=>∃u,r=some u /\
   aby (model P w) X.A (letOwnedTupleGo tg (.ref it) u) (fun _ s2=>∃x H',Inv X pins σ H' s2/\RelV x u/\J.RO i H x H'/\tn (i+1) s2.heap/\∀b∈fp,H' b=none) E s1) E s
 done:∀(X:Cx),X.prog=P->X.w=w->X.K=K->X.calm=true->∀(i:Nat) (pins:List (aay × Obj)) (s:aah) (σ:St) (H:Hp) (E:aae->aah->Prop),Inv X pins σ H s->(∀b∈fp,yR X pins H b)->tn i s.heap->J.stop i H ->
  aby (model P w) X.A (pyNext (.ref it)) (fun r s1=>r=none/\Inv X pins σ H s1) E s
 self:∀(A:abP) (i:Nat) (s:aah) (Q:aae->aah->Prop) (E:aae->aah->Prop),tn i s.heap->Q (.ref it) s->aby (model P w) A (pyIter (.ref it)) Q E s
abbrev TI:=St->Hp->(It->Hp->Prop)->Prop
def PIE (X:Cx) (pins:List (aay × Obj)) (σ:St) (tg:Expr) (R:It->Hp->Prop) (itv:aae) (s2:aah):Prop :=
 ∃(it:aay) (fp:List aay) (tn:Nat->Heap->Prop) (J:It) (H':Hp),itv=.ref it/\Inv X pins σ H' s2/\Turn X.prog X.w X.K tg J fp it tn/\tn 0 s2.heap/\(∀b∈fp,yR X pins H' b)/\R J H'
def PI (X:Cx) (tg iter:Expr) (wi:TI):Prop :=
 ∀(pins:List (aay × Obj)) (s:aah) (σ:St) (H:Hp) (R:It->Hp->Prop),Inv X pins σ H s->wi σ H R ->
  aby (model X.prog X.w) X.A (eval iter X.env) (fun v s1=>aby (model X.prog X.w) X.A (pyIter v) (PIE X pins σ tg R) X.xe s1) X.xe s
theorem IY {M:Model} {A:abP} {E:aae->aah->Prop} {s:aah} {tg:Expr} {it:aay} {u:aae} {o:Obj} {n:String} {vs:Array aae} {Q:Unit->aah->Prop} (B:s.heap.get? it=some o) (z:o.cls=.type n) (hd:o.data=.fields vs)
    (hn:["enumerate","zip","dict_itemiterator","dict_reverseitemiterator","odict_iterator","itertools.zip_longest","itertools.pairwise"].contains n=false) (q:Q () s):aby M A (letOwnedTupleGo tg (.ref it) u) Q E s:=by
  unfold letOwnedTupleGo
  cases tg <;> first
    | exact aav q
    | (cases u <;> first
        | exact aav q
        | (refine aac (wpAny_load B ?_)
           rw [z,hd]
           show aby M A (if (["enumerate","zip","dict_itemiterator","dict_reverseitemiterator","odict_iterator","itertools.zip_longest","itertools.pairwise"].contains n && vs[0]? == some (rawInt _))=true then _ else _) Q E s
           rw [if_neg (by intro h;rw [hn,aeH] at h;cases h)]
           exact aav q))
noncomputable def Mj (K:aaa) (a:aay):It :=
 ⟨fun i H=>∃xs x,aC K H a xs/\xs[i]?=some x,fun i H x H'=>H'=H/\∀xs,aC K H a xs->xs[i]?=some x,fun i H=>∃xs,aC K H a xs/\xs.length<=i⟩
noncomputable def RP (K:aaa) (a:aay):It :=
 ⟨fun i H=>∃xs x,bH K H a xs/\xs[i]?=some x,fun i H x H'=>H'=H/\∀xs,bH K H a xs->xs[i]?=some x,fun i H=>∃xs,bH K H a xs/\xs.length<=i⟩
noncomputable def RQ (lo:Int) (n:Nat):It:=⟨fun i _=>i<n,fun i H x H'=>H'=H/\x=.int (lo+i),fun i _=>n<=i⟩
theorem Ke {P:abn} {w:abU} {K:aaa} {tg:Expr} (a it:aay):Turn P w K tg (Mj K a) [it] it (fun i h=>h.IsListIter it a i) where
 mem:=by simp
 obj:=fun i h st b q=>by
  have e:b=it:=by simpa using q
  subst e
  obtain⟨o,e,c,d⟩:=st
  exact⟨o,e,fun v z=>by rw [d] at z;cases z⟩
 keep:=fun i h h' st k=>st.at fun o e=>k it (by simp) o e
 item:=by
  intro X V Z O hc i pins s σ H E I B st Y
  subst V Z O
  obtain⟨xs,x,F,hx⟩:=Y
  obtain⟨its,rv,p,hz⟩:=I.list F
  obtain⟨u,hu,ru⟩:=rv.get hx
  obtain⟨f0,f1,f2,G,J,L⟩:=B it (by simp)
  refine wpAny_pyNext_list_item st p.isList (x:=u) (by simpa using hu) fun h' BQ sb=>?_
  have I1:Inv X pins σ H { s with heap:=h' }:=I.turned (t':=s.toks) (fun b o q e=>(sb.2 b q).trans e) f0 f1 G J L
  obtain⟨o,e,c,d⟩:=id BQ
  exact⟨u,rfl,IY (s:={ s with heap:=h' }) e c d (by decide) ⟨x,H,I1,ru,⟨rfl,fun ys hy=>by rw [I.Ek hy F];exact hx⟩,BQ,fun b q=>(B b q).1⟩⟩
 done:=by
  intro X V Z O hc i pins s σ H E I B st Y
  subst V Z O
  obtain⟨xs,F,hx⟩:=Y
  obtain⟨its,rv,p,hz⟩:=I.list F
  obtain⟨f0,f1,f2,G,J,L⟩:=B it (by simp)
  have hl:=rv.length
  exact wpAny_pyNext_list_end (I.ok.hd hc) st p.isList (by simp;omega) fun h' eb=>⟨rfl,I.turned (t':=s.toks) (fun b o q e=>eb b o q e) f0 f1 G J L⟩
 self:=fun _ _ _ _ _ st h=>wpAny_pyIter_listiter st h
theorem GC {P:abn} {w:abU} {K:aaa} {tg:Expr} (a it:aay):Turn P w K tg (RP K a) [it] it (fun i h=>h.IsTupleIter it a i) where
 mem:=by simp
 obj:=fun i h st b q=>by
  have e:b=it:=by simpa using q
  subst e
  obtain⟨o,e,c,d⟩:=st
  exact⟨o,e,fun v z=>by rw [d] at z;cases z⟩
 keep:=fun i h h' st k=>st.at fun o e=>k it (by simp) o e
 item:=by
  intro X V Z O hc i pins s σ H E I B st Y
  subst V Z O
  obtain⟨xs,x,F,hx⟩:=Y
  obtain⟨its,rv,p,hz⟩:=I.tuple F
  obtain⟨u,hu,ru⟩:=rv.get hx
  obtain⟨f0,f1,f2,G,J,L⟩:=B it (by simp)
  refine wpAny_pyNext_tuple_item st (show s.heap.IsTuple a its.toArray from p) (x:=u) (by simpa using hu) fun h' BQ sb=>?_
  have I1:Inv X pins σ H { s with heap:=h' }:=I.turned (t':=s.toks) (fun b o q e=>(sb.2 b q).trans e) f0 f1 G J L
  obtain⟨o,e,c,d⟩:=id BQ
  exact⟨u,rfl,IY (s:={ s with heap:=h' }) e c d (by decide) ⟨x,H,I1,ru,⟨rfl,fun ys hy=>by rw [I.rW hy F];exact hx⟩,BQ,fun b q=>(B b q).1⟩⟩
 done:=by
  intro X V Z O hc i pins s σ H E I B st Y
  subst V Z O
  obtain⟨xs,F,hx⟩:=Y
  obtain⟨its,rv,p,hz⟩:=I.tuple F
  obtain⟨f0,f1,f2,G,J,L⟩:=B it (by simp)
  have hl:=rv.length
  exact wpAny_pyNext_tuple_end (I.ok.hd hc) st (show s.heap.IsTuple a its.toArray from p) (by simp;omega) fun h' eb=>⟨rfl,I.turned (t':=s.toks) (fun b o q e=>eb b o q e) f0 f1 G J L⟩
 self:=fun _ _ _ _ _ st h=>wpAny_pyIter_tupleiter st h
theorem GD {P:abn} {w:abU} {K:aaa} {tg:Expr} (it:aay) (lo:Int) (n:Nat):Turn P w K tg (RQ lo n) [it] it (fun i h=>IsRangeIter h it (lo+(i:Nat) * 1) ((n:Int) - (i:Nat)) 1) where
 mem:=by simp
 obj:=fun i h st b q=>by
  have e:b=it:=by simpa using q
  subst e
  exact⟨_,st,fun v z=>by
   have z':Data.fields _=Data.cell v:=z
   cases z'⟩
 keep:=fun i h h' st k=>k it (by simp) _ st
 item:=by
  intro X O Z L V i pins s σ H E I B st Y
  subst O Z L
  obtain⟨f0,f1,f2,F,G,J⟩:=B it (by simp)
  have W:=Walks.range (prog:=X.prog) (w:=X.w) (I.ok.hd V) it lo 1 n
  refine W.item i s _ _ Y st fun v h' tk hv BQ kk=>?_
  obtain⟨t,rfl⟩:=hv
  have I1:Inv X pins σ H { s with heap:=h',toks:=tk }:=I.turned (fun b o q e=>kk b o (by simpa using q) e) f0 f1 F G J
  refine⟨_,rfl,IY (s:={ s with heap:=h',toks:=tk }) (n:="range_iterator") BQ rfl rfl (by decide) ⟨.int (lo+i),H,I1,⟨t,?_⟩,⟨rfl,rfl⟩,BQ,fun b q=>(B b q).1⟩⟩
  rw [Int.mul_one]
 done:=by
  intro X O Z L V i pins s σ H E I B st Y
  subst O Z L
  obtain⟨f0,f1,f2,F,G,J⟩:=B it (by simp)
  exact wpAny_pyNext_range_end (I.ok.hd V) st (by have:n<=i:=Y;omega) fun h' eb=>⟨rfl,I.turned (t':=s.toks) (fun b o q e=>eb b o q e) f0 f1 F G J⟩
 self:=fun _ _ _ _ _ st h=>wpAny_pyIter_rangeiter st h
section
variable {X:Cx} {tg:Expr}
def V6 (K:aaa) (tl:TE):TI:=fun σ H R=>tl σ H fun x H1=>∃a,x=.ref a/\(∃xs,aC K H1 a xs)/\R (Mj K a) H1
def aa1 (K:aaa) (tl:TE):TI:=fun σ H R=>tl σ H fun x H1=>∃a,x=.ref a/\(∃xs,bH K H1 a xs)/\R (RP K a) H1
theorem aN {l:Expr} {tl:TE} (hl:PE X l tl):PI X tg l (V6 X.K tl):=by
 intro pins s σ H R I h
 refine thn (hl pins s σ H _ I h) fun v s1 Zq=>?_
 obtain⟨x,H1,I1,F,q1⟩:=Zq
 obtain⟨a,e,⟨xs,B⟩,q⟩:=q1
 subst e
 cases F
 obtain⟨its,rv,p,hz⟩:=I1.list B
 refine wpAny_pyIter_list p.isList ?_
 refine⟨s1.heap.objs.size,[s1.heap.objs.size],_,_,H1,rfl,I1.kept (t':=s1.toks) fun b o e=>aag _ e,Ke a _,⟨_,aa0 _ rfl,rfl,rfl⟩,fun b z=>?_,q⟩
 have e:b=s1.heap.objs.size:=by simpa using z
 subst e
 exact I1.Kc (aar _) (I1.hok.fresh (aar _))
theorem vN {l:Expr} {tl:TE} (hl:PE X l tl):PI X tg l (aa1 X.K tl):=by
 intro pins s σ H R I h
 refine thn (hl pins s σ H _ I h) fun v s1 Zq=>?_
 obtain⟨x,H1,I1,F,q1⟩:=Zq
 obtain⟨a,e,⟨xs,B⟩,q⟩:=q1
 subst e
 cases F
 obtain⟨its,rv,p,hz⟩:=I1.tuple B
 refine wpAny_pyIter_tuple (show s1.heap.IsTuple a its.toArray from p) ?_
 refine⟨s1.heap.objs.size,[s1.heap.objs.size],_,_,H1,rfl,I1.kept (t':=s1.toks) fun b o e=>aag _ e,GC a _,⟨_,aa0 _ rfl,rfl,rfl⟩,fun b z=>?_,q⟩
 have e:b=s1.heap.objs.size:=by simpa using z
 subst e
 exact I1.Kc (aar _) (I1.hok.fresh (aar _))
theorem MF {pins:List (aay × Obj)} {σ:St} {H:Hp} {s:aah} {R:It->Hp->Prop} {E:aae->aah->Prop} {lo hi:Int} {t u v:Tok} {tk:Nat} (I:Inv X pins σ H s) (h1:-(2 ^ 62)<=lo) (h2:lo<2 ^ 62) (F:-(2 ^ 62)<=hi) (G:hi<2 ^ 62)
  (q:R (RQ lo (hi - lo).toNat) H):aby (model X.prog X.w) X.A (pyIter (.ref s.heap.objs.size)) (PIE X pins σ tg R) E { s with heap:=s.heap.push { cls:=.type "range",data:=.fields #[.int lo t,.int hi u,.int 1 v] },toks:=tk }:=by
 refine wpAny_pyIter_range (IsRange.new ..) (small_one h1 h2 F G) ?_
 have I1:Inv X pins σ H { s with heap:=s.heap.push { cls:=.type "range",data:=.fields #[.int lo t,.int hi u,.int 1 v] },toks:=tk }:=I.kept fun b o e=>aag _ e
 refine⟨(s.heap.push { cls:=.type "range",data:=.fields #[.int lo t,.int hi u,.int 1 v] }).objs.size,[(s.heap.push { cls:=.type "range",data:=.fields #[.int lo t,.int hi u,.int 1 v] }).objs.size],_,_,H,rfl,
  I1.kept (t':=tk) fun b o e=>aag _ e,GD _ lo (hi - lo).toNat,?_,fun b J=>?_,q⟩
 ·have z:lo+((0:Nat):Int) * 1=lo:=by simp
  have B:(((hi - lo).toNat:Nat):Int) - ((0:Nat):Int)=Builtin.Range.rangeSize lo hi 1:=by rw [rangeSize_one];split <;> omega
  show IsRangeIter _ _ (lo+((0:Nat):Int) * 1) ((((hi - lo).toNat:Nat):Int) - ((0:Nat):Int)) 1
  rw [z,B]
  exact aa0 _ rfl
 ·have e:b=(s.heap.push { cls:=.type "range",data:=.fields #[.int lo t,.int hi u,.int 1 v] }).objs.size:=by simpa using J
  subst e
  exact I1.Kc (aar _) (I1.hok.fresh (aar _))
def V7 (ta:TA):TI:=fun σ H R=>ta σ H fun vs H1=>∃j:Int,vs=[.int j]/\-(2 ^ 62)<=j/\j<2 ^ 62/\R (RQ 0 j.toNat) H1
theorem AI {a:Expr} {ta:TA} {p pos:Pos} (z:Gl X "range") (hm:X.mg "range"=none) (ha:PA X [a] ta) (hs:autoParam (starEach [a] X.env=[(false,eval a X.env)]) z0._auto_1):PI X tg (.Call (.Name "range" p) [a] [] pos) (V7 ta):=by
 intro pins s σ H R I h
 refine Call_ (pA I z hm boot_range (ac2 (thn (ha pos pins s σ H _ I h) fun us s1 Zq=>?_) hs rfl))
 obtain⟨vs,H1,I1,B,q1⟩:=Zq
 obtain⟨j,e,q1,q2,q⟩:=q1
 subst e
 cases B with
 | cons r rr =>
  cases rr
  obtain⟨t,rfl⟩:=r
  exact call_range_1 (MF I1 (by omega) (by omega) q1 q2 (by simpa using q))
def aa2 (wi:TI) (g:TG) (tb:TS):TS:=fun D σ H=>wi σ H fun J H1=>∃W:Nat->Nat->St->Hp->Prop,(∃m,W 0 m σ H1)/\∀i m σ H,W i m σ H ->
 (J.stop i H/\D.nx σ H)\/(J.go i H/\∃N:St->Hp->Prop,(∀σ' H',N σ' H'->∃q,q<m/\W (i+1) q σ' H')/\∀x H',J.RO i H x H'->g x σ H' fun σ2 U=>tb { D with nx:=N,ct:=N,bk:=D.nx } σ2 U)
noncomputable def vO (fp:List aay) (h:Heap):List (aay × Obj):=fp.filterMap fun b=>(h.get? b).map fun o=>(b,o)
theorem j0 {fp:List aay} {h:Heap} {b:aay} {o:Obj} (q:b∈fp) (e:h.get? b=some o):(b,o)∈vO fp h:=agN.mpr ⟨b,q,by rw [e];rfl⟩
theorem Kf {fp:List aay} {h:Heap} {p:aay × Obj} (F:p∈vO fp h):p.1∈fp/\h.get? p.1=some p.2:=by
 obtain⟨b,B,e⟩:=agN.mp F
 cases q:h.get? b with
 | none=>rw [q] at e;cases e
 | some o =>
  rw [q] at e
  have z:(b,o)=p:=abA e
  subst z
  exact⟨B,q⟩
theorem Inv.pinned {pins:List (aay × Obj)} {σ:St} {H:Hp} {s:aah} {fp:List aay} (I:Inv X pins σ H s) (G:∀b∈fp,yR X pins H b) (J:∀b∈fp,∃o,s.heap.get? b=some o/\∀v,o.data≠.cell v):Inv X (pins++vO fp s.heap) σ H s :=
 I.IV fun p L=>(aaq.mp L).elim (fun z=>I.pin p (aak _ z)) fun z=>by
  obtain⟨B,e⟩:=Kf z
  obtain⟨f0,f1,F,_⟩:=G p.1 B
  obtain⟨o,q,d⟩:=J p.1 B
  rw [e] at q;cases q
  exact⟨e,f0,f1,F,d⟩
theorem Inv.qf {pins pl:List (aay × Obj)} {σ:St} {H:Hp} {s:aah} (I:Inv X (pins++pl) σ H s):Inv X pins σ H s:=I.IV fun p q=>I.pin p (aak _ (aax _ q))
theorem cB {iter:Expr} {body:List Stmt} {wi:TI} {g:TG} {tb:TS} {pos:Pos} (B:PassesOwn (model X.prog X.w) X.A X.env X.xe) (L:X.calm=true) (hi:PI X tg iter wi) (Z:PG X tg g) (q:AG X body tb)
  (hs:autoParam (∀x,foldedSetIterable iter X.env x=pure x) z4._auto_1):PS X (.For tg iter body [] pos) (aa2 wi g tb):=by
 intro pins s σ H D I h
 refine wpAny_For (thn (hi pins s σ H _ I h) fun v s1 h1=>thn h1 fun itv s2 h2=>?_) hs
 obtain⟨it,fp,tn,J,U,e,I2,T,Kg,G,W,⟨m0,w0⟩,turn⟩:=h2
 subst e
 have GF:∀{H':Hp},(∀b∈fp,H' b=none)->∀b∈fp,yR X pins H' b:=fun hn b q=>⟨hn b q,(G b q).2⟩
 refine codeAny_forLoop_any (fun n s'=>∃i σ' H',Inv X pins σ' H' s'/\tn i s'.heap/\(∀b∈fp,H' b=none)/\W i n σ' H') ?_ m0 ⟨0,σ,U,I2,Kg,fun b q=>(G b q).1,w0⟩
 rintro n s3 ⟨i,σ3,H3,I3,S6,Y9,w3⟩
 rcases turn i n σ3 H3 w3 with⟨stop,qn⟩|⟨go,N,Y,step⟩
 ·refine wpAny_passesOwn B (thn (T.done X rfl rfl rfl L i pins s3 σ3 H3 X.xe I3 (GF Y9) S6 stop) fun r s4 Zq=>?_)
  obtain⟨hr,I4⟩:=Zq
  subst hr
  exact wpAny_execs_nil ⟨σ3,H3,I4,qn⟩
 ·refine wpAny_passesOwn B (thn (T.item X rfl rfl rfl L i pins s3 σ3 H3 X.xe I3 (GF Y9) S6 go) fun r s4 Zq=>?_)
  obtain⟨u,hr,V⟩:=Zq
  subst hr
  refine wpAny_passesOwn B (thn V fun _ O Zq=>?_)
  obtain⟨x,H5,I5,r5,y5,S7,V8⟩:=Zq
  have I5':=I5.pinned (GF V8) (T.obj _ _ S7)
  refine wpAny_passesOwn B (thn (Z _ O σ3 H5 x u _ I5' r5 (step x H5 y5)) fun _ s6 Zq=>?_)
  obtain⟨σ6,H6,I6,q6⟩:=Zq
  refine wpAny_passesOwn B (thn (q _ s6 σ6 H6 _ I6 q6) fun f F z=>?_)
  have again:∀{σ7:St} {H7:Hp},Inv X (pins++vO fp O.heap) σ7 H7 F->N σ7 H7->∃m,m<n/\∃i σ' H',Inv X pins σ' H' F/\tn i F.heap/\(∀b∈fp,H' b=none)/\W i m σ' H':=fun {σ7 H7} I7 n7=>by
   obtain⟨m',hm,w7⟩:=Y σ7 H7 n7
   refine⟨m',hm,i+1,σ7,H7,I7.qf,T.keep _ _ _ S7 fun b q o e=>(I7.pin (b,o) (aak _ (aak _ (j0 q e)))).1,fun b q=>?_,w7⟩
   obtain⟨o,e,d⟩:=T.obj _ _ S7 b q
   exact(I7.pin (b,o) (aak _ (aak _ (j0 q e)))).2.1
  cases f with
  | next=>obtain⟨σ7,H7,I7,n7⟩:=z;exact again I7 n7
  | cont=>obtain⟨σ7,H7,I7,n7⟩:=z;exact again I7 n7
  | brk=>obtain⟨σ7,H7,I7,z⟩:=z;exact⟨σ7,H7,I7.qf,z⟩
  | ret v=>obtain⟨x7,σ7,H7,I7,r7,z⟩:=z;exact⟨x7,σ7,H7,I7.qf,r7,z⟩
end
theorem bR {K:aaa} {a:aay} {xs:List V} {g:TG} {tb:TS} {D:Ends} {σ:St} {H:Hp} (Pv:Nat->St->Hp->Prop) (h0:Pv 0 σ H) (hl:∀i σ H,i<=xs.length->Pv i σ H->aC K H a xs)
  (hs:∀i x σ H,xs[i]?=some x->Pv i σ H->g x σ H fun σ2 U=>tb { D with nx:=Pv (i+1),ct:=Pv (i+1),bk:=D.nx } σ2 U) (hd:∀σ H,Pv xs.length σ H->D.nx σ H) :
  ∃W:Nat->Nat->St->Hp->Prop,(∃m,W 0 m σ H)/\∀i m σ H,W i m σ H ->
   ((Mj K a).stop i H/\D.nx σ H)\/((Mj K a).go i H/\∃N:St->Hp->Prop,(∀σ' H',N σ' H'->∃z,z<m/\W (i+1) z σ' H')/\∀x H',(Mj K a).RO i H x H'->g x σ H' fun σ2 U=>tb { D with nx:=N,ct:=N,bk:=D.nx } σ2 U):=by
 refine⟨fun i m σ H=>m=xs.length - i/\i<=xs.length/\Pv i σ H,⟨xs.length,by simp,ab4 _,h0⟩,?_⟩
 rintro i m σ H ⟨rfl,hi,p⟩
 have q:=hl i σ H hi p
 by_cases mi:i<xs.length
 ·refine .inr ⟨⟨xs,xs[i],q,by simp [mi]⟩,Pv (i+1),fun σ' H' B=>⟨xs.length - (i+1),by omega,rfl,mi,B⟩,fun x H' y=>?_⟩
  obtain⟨e,y⟩:=y
  subst e
  exact hs i x σ _ (y xs q) p
 ·have e:i=xs.length:=by omega
  subst e
  exact .inl ⟨⟨xs,q,aar _⟩,hd σ H p⟩
theorem BR {K:aaa} {a:aay} {xs:List V} {g:TG} {tb:TS} {D:Ends} {σ:St} {H:Hp} (Pv:Nat->St->Hp->Prop) (h0:Pv 0 σ H) (hl:∀i σ H,i<=xs.length->Pv i σ H->bH K H a xs)
  (hs:∀i x σ H,xs[i]?=some x->Pv i σ H->g x σ H fun σ2 U=>tb { D with nx:=Pv (i+1),ct:=Pv (i+1),bk:=D.nx } σ2 U) (hd:∀σ H,Pv xs.length σ H->D.nx σ H) :
  ∃W:Nat->Nat->St->Hp->Prop,(∃m,W 0 m σ H)/\∀i m σ H,W i m σ H ->
   ((RP K a).stop i H/\D.nx σ H)\/((RP K a).go i H/\∃N:St->Hp->Prop,(∀σ' H',N σ' H'->∃z,z<m/\W (i+1) z σ' H')/\∀x H',(RP K a).RO i H x H'->g x σ H' fun σ2 U=>tb { D with nx:=N,ct:=N,bk:=D.nx } σ2 U):=by
 refine⟨fun i m σ H=>m=xs.length - i/\i<=xs.length/\Pv i σ H,⟨xs.length,by simp,ab4 _,h0⟩,?_⟩
 rintro i m σ H ⟨rfl,hi,p⟩
 have q:=hl i σ H hi p
 by_cases mi:i<xs.length
 ·refine .inr ⟨⟨xs,xs[i],q,by simp [mi]⟩,Pv (i+1),fun σ' H' B=>⟨xs.length - (i+1),by omega,rfl,mi,B⟩,fun x H' y=>?_⟩
  obtain⟨e,y⟩:=y
  subst e
  exact hs i x σ _ (y xs q) p
 ·have e:i=xs.length:=by omega
  subst e
  exact .inl ⟨⟨xs,q,aar _⟩,hd σ H p⟩
theorem Kh {lo:Int} {n:Nat} {g:TG} {tb:TS} {D:Ends} {σ:St} {H:Hp} (Pv:Nat->St->Hp->Prop) (h0:Pv 0 σ H)
  (hs:∀i σ H,i<n->Pv i σ H->g (.int (lo+i)) σ H fun σ2 U=>tb { D with nx:=Pv (i+1),ct:=Pv (i+1),bk:=D.nx } σ2 U) (hd:∀σ H,Pv n σ H->D.nx σ H) :
  ∃W:Nat->Nat->St->Hp->Prop,(∃m,W 0 m σ H)/\∀i m σ H,W i m σ H ->
   ((RQ lo n).stop i H/\D.nx σ H)\/((RQ lo n).go i H/\∃N:St->Hp->Prop,(∀σ' H',N σ' H'->∃q,q<m/\W (i+1) q σ' H')/\∀x H',(RQ lo n).RO i H x H'->g x σ H' fun σ2 U=>tb { D with nx:=N,ct:=N,bk:=D.nx } σ2 U):=by
 refine⟨fun i m σ H=>m=n - i/\i<=n/\Pv i σ H,⟨n,by simp,ab4 _,h0⟩,?_⟩
 rintro i m σ H ⟨rfl,hi,p⟩
 by_cases mi:i<n
 ·refine .inr ⟨mi,Pv (i+1),fun σ' H' z=>⟨n - (i+1),by omega,rfl,mi,z⟩,fun x H' y=>?_⟩
  obtain⟨e,y⟩:=y
  subst e y
  exact hs i σ _ mi p
 ·have e:i=n:=by omega
  subst e
  exact .inl ⟨aar _,hd σ H p⟩
abbrev R2:=V->V->Hp->VK->Prop
def qc (X:Cx) (f:aae->aae->Sem aae) (r:R2):Prop :=
 ∀(pins:List (aay × Obj)) (s:aah) (σ:St) (H:Hp) (x y:V) (v u:aae) (Q:VK),Inv X pins σ H s->RelV x v->RelV y u->r x y H Q ->
  aby (model X.prog X.w) X.A (f v u) (EP X pins σ Q) X.xe s
def UnR (X:Cx) (f:aae->Sem aae) (r:V->Hp->VK->Prop):Prop :=
 ∀(pins:List (aay × Obj)) (s:aah) (σ:St) (H:Hp) (x:V) (v:aae) (Q:VK),Inv X pins σ H s->RelV x v->r x H Q ->
  aby (model X.prog X.w) X.A (f v) (EP X pins σ Q) X.xe s
def fD (X:Cx) (f:aae) (r:List V->Hp->VK->Prop):Prop :=
 ∀(pins:List (aay × Obj)) (s:aah) (σ:St) (H:Hp) (xs:List V) (us:List aae) (Q:VK),Inv X pins σ H s->Vals xs us->r xs H Q ->
  aby (model X.prog X.w) X.A (call f us) (EP X pins σ Q) X.xe s
def S8 (r:R2) (ta tb:TE):TE:=fun σ H Q=>ta σ H fun x H1=>tb σ H1 fun y U=>r x y U Q
def tUn (r:V->Hp->VK->Prop) (ta:TE):TE:=fun σ H Q=>ta σ H fun x H1=>r x H1 Q
def rI (C:Int->Int->Prop) (g:Int->Int->V):R2:=fun x y H Q=>∃i j,x=.int i/\y=.int j/\C i j/\Q (g i j) H
def RR (g:Int->Int->V):R2:=fun x y H Q=>∃i j,x=.int i/\y=.int j/\Q (g i j) H
def rU (g:Int->V):V->Hp->VK->Prop:=fun x H Q=>∃i,x=.int i/\Q (g i) H
section
variable {X:Cx} {a b c:Expr} {ta tb tc:TE} {pos:Pos}
theorem S9 (ha:PE X a ta) (q:PE X b tb) {pins:List (aay × Obj)} {s:aah} {σ:St} {H:Hp} {R:V->V->Hp->Prop} (I:Inv X pins σ H s)
  (h:ta σ H fun x H1=>tb σ H1 fun y U=>R x y U) {Q:aae->aah->Prop} {f:aae->aae->Sem aae}
  (z:∀v u s2 x y U,Inv X pins σ U s2->RelV x v->RelV y u->R x y U->aby (model X.prog X.w) X.A (f v u) Q X.xe s2) :
  aby (model X.prog X.w) X.A (eval a X.env) (fun v s₁=>aby (model X.prog X.w) X.A (eval b X.env) (fun u s₂=>aby (model X.prog X.w) X.A (f v u) Q X.xe s₂) X.xe s₁) X.xe s:=by
 refine thn (ha pins s σ H _ I h) fun v s1 Zq=>?_
 obtain⟨x,H1,I1,B,q1⟩:=Zq
 refine thn (q pins s1 σ H1 _ I1 q1) fun u s2 Zq=>?_
 obtain⟨y,U,I2,r2,q2⟩:=Zq
 exact z v u s2 x y U I2 B r2 q2
theorem aJ {op:Operator} {r:R2} (B:qc X (binaryOp op) r) (ha:PE X a ta) (z:PE X b tb):PE X (.BinOp a op b pos) (S8 r ta tb):=by
 intro pins s σ H Q I h
 exact wpAny_BinOp (S9 ha z I h fun v u s2 x y U I2 rx ry q=>B pins s2 σ U x y v u Q I2 rx ry q)
theorem RS {op:UnaryOp} {r:V->Hp->VK->Prop} (q:UnR X (unaryOp op) r) (ha:PE X a ta):PE X (.UnaryOp op a pos) (tUn r ta):=by
 intro pins s σ H Q I h
 exact UnaryOp_ (thn (ha pins s σ H _ I h) fun v s1 ⟨x,H1,I1,z,q1⟩=>q pins s1 σ H1 x v Q I1 z q1)
theorem Za {f:aae->aae->Sem aae} {C:Int->Int->Prop} {g:Int->Int->Int}
  (rule:∀(i j:Int) (t u:Tok) (s:aah) (Q:aae->aah->Prop) (E:aae->aah->Prop),C i j->Q (.int (g i j) s.toks) { s with toks:=s.toks+1 }->aby (model X.prog X.w) X.A (f (.int i t) (.int j u)) Q E s) :
  qc X f (rI C fun i j=>.int (g i j)):=by
 intro pins s σ H x y v u Q I rx ry h
 obtain⟨i,j,rfl,rfl,z,q⟩:=h
 obtain⟨t,rfl⟩:=rx
 obtain⟨t',rfl⟩:=ry
 exact rule i j t t' s _ _ z ⟨.int (g i j),H,I.tok _,⟨_,rfl⟩,q⟩
theorem V9 {f:aae->aae->Sem aae} {g:Int->Int->Int}
  (rule:∀(i j:Int) (t u:Tok) (s:aah) (Q:aae->aah->Prop) (E:aae->aah->Prop),Q (.int (g i j) s.toks) { s with toks:=s.toks+1 }->aby (model X.prog X.w) X.A (f (.int i t) (.int j u)) Q E s) :
  qc X f (RR fun i j=>.int (g i j)):=by
 intro pins s σ H x y v u Q I rx ry h
 obtain⟨i,j,rfl,rfl,q⟩:=h
 obtain⟨t,rfl⟩:=rx
 obtain⟨t',rfl⟩:=ry
 exact rule i j t t' s _ _ ⟨.int (g i j),H,I.tok _,⟨_,rfl⟩,q⟩
theorem PF {f:aae->aae->Sem aae} {g:Int->Int->Bool}
  (rule:∀(i j:Int) (t u:Tok) (s:aah) (Q:aae->aah->Prop) (E:aae->aah->Prop),Q (.bool (g i j)) s->aby (model X.prog X.w) X.A (f (.int i t) (.int j u)) Q E s) :
  qc X f (RR fun i j=>.bl (g i j)):=by
 intro pins s σ H x y v u Q I rx ry h
 obtain⟨i,j,rfl,rfl,q⟩:=h
 obtain⟨t,rfl⟩:=rx
 obtain⟨t',rfl⟩:=ry
 exact rule i j t t' s _ _ ⟨.bl (g i j),H,I,rfl,q⟩
def aa4 (i j:Int):Prop:=0<j/\j<1073741824
def aa5 (i j:Int):Prop:=0<=j/\j<=1000000/\i.natAbs<2 ^ 64
def Ta (i j:Int):Prop:=(-(2 ^ 64)<i/\i<2 ^ 64)\/(-(2 ^ 64)<j/\j<2 ^ 64)
theorem Ta.ok {i j:Int} (h:Ta i j):IntMulOk i j:=by
 rcases h with⟨h1,h2⟩|⟨h1,h2⟩
 ·exact .of_left (intBits_le_64 h1 h2)
 ·exact .of_right (intBits_le_64 h1 h2)
theorem gY:qc X (binaryOp .Add) (RR fun i j=>.int (i+j)):=V9 fun _ _ _ _ _ _ _ q=>add_int q
theorem GG:qc X (binaryOp .Sub) (RR fun i j=>.int (i - j)):=V9 fun _ _ _ _ _ _ _ q=>sub_int q
theorem BS:qc X (binaryOp .Mult) (rI Ta fun i j=>.int (i * j)):=Za fun _ _ _ _ _ _ _ z q=>mul_int q z.ok
theorem vo:qc X (binaryOp .FloorDiv) (rI aa4 fun i j=>.int (i / j)):=Za fun i j _ _ _ _ _ z q=>by
 have h1:(0:Int)<j:=z.1
 have h2:j<1073741824:=z.2
 exact floordiv_int (by omega) (by rw [Int.fdiv_eq_ediv_of_nonneg i (by omega)];exact q) (.inl (PyProof.noPylong_small (by omega)))
theorem cF:qc X (binaryOp .Mod) (rI (fun _ j=>0<j) fun i j=>.int (i % j)):=Za fun i j _ _ _ _ _ z q=>by
 have h1:(0:Int)<j:=z
 exact mod_int' (by omega) (by rw [Int.fmod_eq_emod_of_nonneg i (by omega)];exact q)
theorem MG:qc X (binaryOp .Pow) (rI aa5 fun i j=>.int (i ^ j.toNat)):=Za fun _ _ _ _ _ _ _ z q=>pow_int_small z.1 z.2.1 z.2.2 q
theorem unI {f:aae->Sem aae} {g:Int->Int}
  (rule:∀(i:Int) (t:Tok) (s:aah) (Q:aae->aah->Prop) (E:aae->aah->Prop),Q (.int (g i) s.toks) { s with toks:=s.toks+1 }->aby (model X.prog X.w) X.A (f (.int i t)) Q E s) :
  UnR X f (rU fun i=>.int (g i)):=by
 intro pins s σ H x v Q I rx h
 obtain⟨i,rfl,q⟩:=h
 obtain⟨t,rfl⟩:=rx
 exact rule i t s _ _ ⟨.int (g i),H,I.tok _,⟨_,rfl⟩,q⟩
theorem MH:UnR X (unaryOp .USub) (rU fun i=>.int (-i)):=unI fun _ _ _ _ _ q=>neg_int q
end
noncomputable def Wa:V->V->Bool
 | .cg,.cg=>true|.cg,.int _=>true|.int _,.cg=>true|.cg,.bl _=>true|.bl _,.cg=>true|.cg,.str _=>true|.str _,.cg=>true
 | .int _,.int _=>true|.bl _,.bl _=>true|.str _,.str _=>true|.Mi _,.Mi _=>true
 | .int _,.str _=>true|.str _,.int _=>true|.bl _,.str _=>true|.str _,.bl _=>true
 | _,_=>false
def rEq:R2:=fun x y H Q=>Wa x y=true/\Q (.bl (decide (x=y))) H
def rNe:R2:=fun x y H Q=>Wa x y=true/\Q (.bl (!decide (x=y))) H
theorem IZ {i j:Int}:decide (V.int i=V.int j)=(i == j):=by
 rw [ac3]
 simp
theorem MI {i j:Bool}:decide (V.bl i=V.bl j)=(i == j):=by
 rw [ac3]
 simp
theorem I0 {i j:Str}:decide (V.str i=V.str j)=(i == j):=by
 rw [ac3]
 simp
theorem I8 {i j:Array UInt8}:decide (V.Mi i=V.Mi j)=(i.toList == j.toList):=by
 rw [ac3]
 cases i
 cases j
 simp
section
variable {X:Cx} {a b c:Expr} {ta tb tc:TE} {pos:Pos}
theorem bP {pins:List (aay × Obj)} {σ:St} {H:Hp} {s:aah} {Q:VK} {k z:Bool} (I:Inv X pins σ H s) (q:Q (.bl k) H) (e:k=z):EP X pins σ Q (.bool z) s:=by
 subst e
 exact⟨.bl k,H,I,rfl,q⟩
theorem du:qc X (compareOp .Eq) rEq:=by
 intro pins s σ H x y v u Q I rx ry h
 obtain⟨hs,q⟩:=h
 cases x with
 | cg =>
  cases rx
  cases y with
  | cg=>cases ry;exact PySem.EqNone.eq_none_none (bP I q (by simp))
  | bl j=>cases ry;exact PySem.EqNone.eq_none_bool (bP I q (by simp))
  | int j=>obtain⟨t',rfl⟩:=ry;exact PySem.EqNone.eq_none_int (bP I q (by simp))
  | str j=>obtain⟨t',rfl⟩:=ry;exact PySem.EqNone.eq_none_str (bP I q (by simp))
  | _=>exact absurd (show false=true from hs) aaZ
 | bl i =>
  cases rx
  cases y with
  | cg=>cases ry;exact PySem.EqNone.eq_bool_none (bP I q (by simp))
  | bl j=>cases ry;exact eq_bool (bP I q MI)
  | str j=>obtain⟨t',rfl⟩:=ry;exact PySem.EqMixed.eq_bool_str (bP I q (by simp))
  | _=>exact absurd (show false=true from hs) aaZ
 | int i =>
  obtain⟨t,rfl⟩:=rx
  cases y with
  | cg=>cases ry;exact PySem.EqNone.eq_int_none (bP I q (by simp))
  | int j=>obtain⟨t',rfl⟩:=ry;exact eq_int (bP I q IZ)
  | str j=>obtain⟨t',rfl⟩:=ry;exact PySem.EqMixed.eq_int_str (bP I q (by simp))
  | _=>exact absurd (show false=true from hs) aaZ
 | str i =>
  obtain⟨t,rfl⟩:=rx
  cases y with
  | cg=>cases ry;exact PySem.EqNone.eq_str_none (bP I q (by simp))
  | bl j=>cases ry;exact PySem.EqMixed.eq_str_bool (bP I q (by simp))
  | int j=>obtain⟨t',rfl⟩:=ry;exact PySem.EqMixed.eq_str_int (bP I q (by simp))
  | str j=>obtain⟨t',rfl⟩:=ry;exact eq_str (bP I q I0)
  | _=>exact absurd (show false=true from hs) aaZ
 | Mi i =>
  obtain⟨t,rfl⟩:=rx
  cases y with
  | Mi j=>obtain⟨t',rfl⟩:=ry;exact PySem.W.eq_bytes (bP I q I8)
  | _=>exact absurd (show false=true from hs) aaZ
 | _=>cases y <;> exact absurd (show false=true from hs) aaZ
theorem fE:qc X (compareOp .NotEq) rNe:=by
 intro pins s σ H x y v u Q I rx ry h
 obtain⟨hs,q⟩:=h
 cases x with
 | cg =>
  cases rx
  cases y with
  | cg=>cases ry;exact PySem.EqNone.ne_none_none (bP I q (by simp))
  | bl j=>cases ry;exact PySem.EqNone.ne_none_bool (bP I q (by simp))
  | int j=>obtain⟨t',rfl⟩:=ry;exact PySem.EqNone.ne_none_int (bP I q (by simp))
  | str j=>obtain⟨t',rfl⟩:=ry;exact PySem.EqNone.ne_none_str (bP I q (by simp))
  | _=>exact absurd (show false=true from hs) aaZ
 | bl i =>
  cases rx
  cases y with
  | cg=>cases ry;exact PySem.EqNone.ne_bool_none (bP I q (by simp))
  | bl j=>cases ry;exact ne_bool (bP I q (congrArg not MI))
  | str j=>obtain⟨t',rfl⟩:=ry;exact PySem.EqMixed.ne_bool_str (bP I q (by simp))
  | _=>exact absurd (show false=true from hs) aaZ
 | int i =>
  obtain⟨t,rfl⟩:=rx
  cases y with
  | cg=>cases ry;exact PySem.EqNone.ne_int_none (bP I q (by simp))
  | int j=>obtain⟨t',rfl⟩:=ry;exact ne_int (bP I q (congrArg not IZ))
  | str j=>obtain⟨t',rfl⟩:=ry;exact PySem.EqMixed.ne_int_str (bP I q (by simp))
  | _=>exact absurd (show false=true from hs) aaZ
 | str i =>
  obtain⟨t,rfl⟩:=rx
  cases y with
  | cg=>cases ry;exact PySem.EqNone.ne_str_none (bP I q (by simp))
  | bl j=>cases ry;exact PySem.EqMixed.ne_str_bool (bP I q (by simp))
  | int j=>obtain⟨t',rfl⟩:=ry;exact PySem.EqMixed.ne_str_int (bP I q (by simp))
  | str j=>obtain⟨t',rfl⟩:=ry;exact ne_str (bP I q (congrArg not I0))
  | _=>exact absurd (show false=true from hs) aaZ
 | Mi i =>
  obtain⟨t,rfl⟩:=rx
  cases y with
  | Mi j=>obtain⟨t',rfl⟩:=ry;exact PySem.W.ne_bytes (bP I q (congrArg not I8))
  | _=>exact absurd (show false=true from hs) aaZ
 | _=>cases y <;> exact absurd (show false=true from hs) aaZ
theorem qg:qc X (compareOp .Lt) (RR fun i j=>.bl (decide (i<j))):=PF fun _ _ _ _ _ _ _ q=>lt_int q
theorem RT:qc X (compareOp .LtE) (RR fun i j=>.bl (decide (i<=j))):=PF fun _ _ _ _ _ _ _ q=>le_int q
theorem I9:qc X (compareOp .Gt) (RR fun i j=>.bl (decide (j<i))):=PF fun _ _ _ _ _ _ _ q=>gt_int q
theorem Wb:qc X (compareOp .GtE) (RR fun i j=>.bl (decide (j<=i))):=PF fun _ _ _ _ _ _ _ q=>ge_int q
theorem iw:qc X (compareOp .In) (fun x y H Q=>∃i j,x=.str i/\y=.str j/\Q (.bl (!(Builtin.Str.occurrences j i 0 j.length 1).isEmpty)) H):=by
 intro pins s σ H x y v u Q I rx ry h
 obtain⟨i,j,rfl,rfl,q⟩:=h
 obtain⟨t,rfl⟩:=rx
 obtain⟨t',rfl⟩:=ry
 exact in_str (bP I q rfl)
theorem aQ (b:Expr) {op:CmpOp} (h:autoParam (op≠.In) z1._auto_1) (h2:autoParam (op≠.NotIn) z1._auto_1):behindInMarks op b=false:=by
 have q:(op == CmpOp.In)=false:=by cases op <;> first|rfl|exact absurd rfl h
 have z:(op == CmpOp.NotIn)=false:=by cases op <;> first|rfl|exact absurd rfl h2
 cases b <;> simp [behindInMarks,q,z]
theorem cS {op:CmpOp} {r:R2} (B:qc X (compareOp op) r) (ha:PE X a ta) (z:PE X b tb) (hm:behindInMarks op b=false):PE X (.Compare a [op] [b] pos) (S8 r ta tb):=by
 intro pins s σ H Q I h
 exact wpAny_Compare1 (S9 ha z I h fun v u s2 x y U I2 rx ry q=>B pins s2 σ U x y v u Q I2 rx ry q) hm
def Wc (t:TE):TT:=fun σ H Q=>t σ H fun x H'=>∃k,x=.bl k/\Q k H'
theorem aE {op:CmpOp} {r:R2} (B:qc X (compareOp op) r) (ha:PE X a ta) (q:PE X b tb) (hm:behindInMarks op b=false):PT X (.Compare a [op] [b] pos) (Wc (S8 r ta tb)):=by
 intro pins s σ H Q I h
 refine wpAny_isTrue_Compare1 (thn (ha pins s σ H _ I h) fun v s1 ⟨x,H1,I1,F,q1⟩=>thn (q pins s1 σ H1 _ I1 q1) fun u s2 ⟨y,U,I2,r2,q2⟩ =>
  thn (B pins s2 σ U x y v u _ I2 F r2 q2) fun c s3 ⟨z,H3,I3,G,k,e,q3⟩=>?_) hm
 subst e
 cases G
 exact wpAny_truthy_bool ⟨H3,I3,q3⟩
def Tb (r q:R2) (ta tb tc:TE):TE:=fun σ H Q=>ta σ H fun x H1=>tb σ H1 fun y U=>r x y U fun z H3=>∃k,z=.bl k /\
 (if k=true then tc σ H3 fun B H4=>q y B H4 Q else Q (.bl false) H3)
theorem MJ {op op':CmpOp} {r B:R2} (J:qc X (compareOp op) r) (q:qc X (compareOp op') B) (ha:PE X a ta) (F:PE X b tb) (G:PE X c tc)
  (hm:lastMarks [op,op'] [b,c]=false:=by with_unfolding_all rfl):PE X (.Compare a [op,op'] [b,c] pos) (Tb r B ta tb tc):=by
 intro pins s σ H Q I h
 refine Compare_chain (thn (ha pins s σ H _ I h) fun v s1 ⟨x,H1,I1,L,q1⟩=>chain_link (thn (F pins s1 σ H1 _ I1 q1) fun u s2 ⟨y,U,I2,r2,q2⟩ =>
  thn (J pins s2 σ U x y v u _ I2 L r2 q2) fun d s3 ⟨z,H3,I3,O,k,e,q3⟩=>?_)) hm
 subst e
 cases O
 refine wpAny_truthy_bool ?_
 cases k with
 | false=>exact ite_ff ⟨.bl false,H3,I3,rfl,q3⟩
 | true=>exact ite_tt (chain_last (thn (G pins s3 σ H3 _ I3 q3) fun Z Y ⟨z',H4,I4,V,q4⟩=>q pins Y σ H4 y z' u Z Q I4 r2 V q4))
theorem vP:(aaj:Nat)<2 ^ 63:=by rw [aaz];decide
theorem bc:qc X (binaryOp .Add) (fun x y H Q=>∃i j,x=.str i/\y=.str j/\i.length+j.length<=aaj/\Q (.str (i++j)) H):=by
 intro pins s σ H x y v u Q I rx ry h
 obtain⟨i,j,rfl,rfl,hz,q⟩:=h
 obtain⟨t,rfl⟩:=rx
 obtain⟨t',rfl⟩:=ry
 exact add_str (fun t' tk=>⟨.str (i++j),H,I.tok _,⟨_,rfl⟩,q⟩) hz
theorem vals1 {x:V} {us:List aae} (r:Vals [x] us):∃u,us=[u]/\RelV x u:=by
 cases r with
 | cons q r2=>cases r2;exact⟨_,rfl,q⟩
theorem vals2 {x y:V} {us:List aae} (r:Vals [x,y] us):∃u q,us=[u,q]/\RelV x u/\RelV y q:=by
 cases r with
 | cons z r2 =>
  cases r2 with
  | cons B F=>cases F;exact⟨_,_,rfl,z,B⟩
theorem qh:fD X (.type "str") (fun xs H Q=>∃i,xs=[.int i]/\i.natAbs.log2<1920/\Q (.str (toString i)) H):=by
 intro pins s σ H xs us Q I r h
 obtain⟨i,rfl,hz,q⟩:=h
 obtain⟨u,rfl,t,rfl⟩:=vals1 r
 exact PySem.P.str_of_int hz ⟨.str _,H,I.tok _,⟨_,rfl⟩,q⟩
end
structure GH (h:Heap) (x dx C:aay) (mA:Str->Option aae):Prop where
 obj:h.get? x=some (adD C dx)
 ns:h.Ns1 dx mA
 ne:dx≠x
theorem Ki {h:Heap} {dx:aay} {mA:Str->Option aae} (n:h.Ns1 dx mA):∃od,h.get? dx=some od/\∀name,agT name od=some (mA name):=by
 obtain⟨o,es,ep,F,hd,hk,_,hm⟩:=n
 refine⟨o,F,fun name=>?_⟩
 have e:=hm name
 unfold nsFind findBy at e
 rw [<- Array.find?_toList] at e
 unfold agT
 rw [hd]
 dsimp only
 split
 ·rename_i y q
  rw [q] at e
  exact congrArg some e
 ·rename_i q
  rw [q] at e
  have a:es.toList.any (·.refKey)=false:=by
   rw [List.any_eq_false]
   intro y G
   obtain⟨z,t,hkey⟩:=hk y (Array.mem_toList_iff.mp G)
   simp [DictEntry.refKey,hkey]
  have B:¬ es.toList.any (·.refKey)=true:=by rw [a];exact aaZ
  rw [if_neg B]
  exact congrArg some e
theorem GH.look {h:Heap} {x dx C:aay} {mA:Str->Option aae} (I:GH h x dx C mA):∃od,PySem.W.InstAt h x (adD C dx) C (some od)/\∀name,agT name od=some (mA name) :=
 let ⟨od,q,hl⟩:=Ki I.ns
 ⟨od,⟨I.obj,rfl,rfl,q⟩,hl⟩
section
variable {prog:abn} {w:abU} {A:abP} {E:aae->aah->Prop} {s:aah} {K:aaa} {x dx C f:aay} {mA:Str->Option aae} {name:Str} {v:aae}
theorem get_map {expr:Bool} {Q:aae->aah->Prop} (X:K.In s.heap) (I:GH s.heap x dx C mA) (z:adu K C name=true) (B:adB K C=true)
  (ha:adi K (.ref C) name=some none) (F:mA name=some v) (q:air v=true) (h:Q v { s with toks:=s.toks+1 }) :
  aby (model prog w) A (getAttr (.ref x) name expr) Q E s:=by
 obtain⟨od,J,hl⟩:=I.look
 exact PySem.W.get_value X J (agu z).1 (PySem.W.findObj_own B ha rfl (by rw [hl,F])) q h
theorem MK {pl:Sem Bool} {Q:aae × List aae->aah->Prop} (X:K.In s.heap) (I:GH s.heap x dx C mA) (q:adu K C name=true)
  (z:adi K (.ref C) name=some (some (.ref f))) (B:ain K (.ref f)=true) (F:mA name=none) (h:Q (.ref f,[.ref x]) s) :
  aby (model prog w) A (getMethod (.ref x) name pl) Q E s:=by
 obtain⟨od,J,hl⟩:=I.look
 exact PySem.W.method_fn X J (agu q).1 (agu q).2 z (beq_iff_eq.mp B) (by show(agT name od).map (·.isSome)=some false;rw [hl,F];rfl) h
theorem PH {ns:List Str} {Q:Unit->aah->Prop} (X:K.In s.heap) (I:GH s.heap x dx C mA)
  (hs:adi K (.ref C) "__setattr__"=some (some (.builtin "object.__setattr__"))) (L:adQ K C=true) (O:ahs K C name=some none) (G:adB K C=true)
  (V:aim mA ns) (hsz:ns.length<=aaj)
  (h:∀h',GH h' x dx C (fun y=>if y=name then some v else mA y)->aek dx s.heap h'->Q () { s with heap:=h',toks:=s.toks+2 }) :
  aby (model prog w) A (setAttr (.ref x) name v) Q E s:=by
 obtain⟨od,J,hl⟩:=I.look
 refine PySem.W.set_plain X J hs (PySem.W.osa_open (s:={ s with toks:=s.toks+1 }) (r:=none) X J L O fun b=>?_)
 obtain⟨cd,F,q⟩:=PySem.W.any_some G
 have Y:s.heap.get? x=some ⟨.ref C,some dx,.plain,#[]⟩:=I.obj
 refine aac (aav (aac (aac (wpAny_loadPart Y (aac (PySem.W.Looks.here (s:={ s with toks:=s.toks+1 }) (PySem.W.looks_clsIn X F) ?_))))))
 rw [q]
 refine aav (a:=some dx) (aac (aav (aac ?_)))
 refine wpAny_nsSet1 (s:={ s with toks:=s.toks+1 }) I.ns fun h' GI BU=>?_
 obtain⟨oD,esD,epD,B,z,PJ⟩:=GI.count (PySem.Within.cons name v V)
 refine aac (wpAny_lookBehind B (by rw [z];exact pastItsLine_dict (ab0 PJ (by rw [aal];omega))) ?_)
 exact aav (h _ ⟨(BU.2 _ (aea I.ne)).trans I.obj,GI,I.ne⟩ BU)
theorem ML {R:Result->aah->Prop} {vs:List aae} {kw:List (Str × aae)} (X:K.In s.heap) (hm:ael K C=true)
  (hi:adi K (.ref C) "__init__"=some (some (.ref f))) (q:adj K (.ref f)=some (.type "function"))
  (h:codeAny (model prog w) (A.under (.builtin "type.__call__" ⟨.ref C::vs,kw⟩)) (.call (.ref f) ⟨.ref (s.heap.objs.size+1)::vs,kw⟩) (PySem.W.InitBack (s.heap.objs.size+1) R)
   { s with heap:=(s.heap.push acu).push (adD C s.heap.objs.size) }) :
  codeAny (model prog w) A (.call (.ref C) ⟨vs,kw⟩) R s:=by
 obtain⟨z,g,d,t,os⟩:=s
 exact PySem.W.make_core (PySem.W.makes_of X hm) (PySem.W.looks_findIn X hi) (fun self=>PySem.W.bind_fn X self q) (.inl rfl) h
end
noncomputable def bV (f:Str) (v:V):List (Str × V)->List (Str × V)
 | []=>[(f,v)]
 | (g,x)::r=>if g=f then (g,v)::r else (g,x)::bV f v r
theorem aV (f g:Str) (v:V):∀fs:List (Str × V),(bV f v fs).lookup g=if g=f then some v else fs.lookup g
 | []=>by
  show aeT g [(f,v)]=_
  by_cases h:g=f
  ·have q:(g == f)=true:=beq_iff_eq.mpr h
   simp only [aeT,q,if_pos h]
  ·have q:(g == f)=false:=beq_eq_false_iff_ne.mpr h
   simp only [aeT,q,if_neg h]
 | (k,x)::r=>by
  have ih:=aV f g v r
  rw [show bV f v ((k,x)::r)=(if k=f then (k,v)::r else (k,x)::bV f v r) from rfl]
  by_cases hk:k=f
  ·rw [if_pos hk]
   by_cases h:g=k
   ·have q:(g == k)=true:=beq_iff_eq.mpr h
    simp only [aeT,q,if_pos (h.trans hk)]
   ·have q:(g == k)=false:=beq_eq_false_iff_ne.mpr h
    simp only [aeT,q,if_neg (fun e:g=f=>h (e.trans hk.symm))]
  ·rw [if_neg hk]
   by_cases h:g=k
   ·have q:(g == k)=true:=beq_iff_eq.mpr h
    simp only [aeT,q,if_neg (fun e:g=f=>hk (h.symm.trans e))]
   ·have q:(g == k)=false:=beq_eq_false_iff_ne.mpr h
    simp only [aeT,q]
    exact ih
theorem rY (f:Str) (v:V):∀fs:List (Str × V),f∈(bV f v fs).map (·.1)/\∀g,g∈fs.map (·.1)->g∈(bV f v fs).map (·.1)
 | []=>⟨by simp [bV],fun g h=>by simp at h⟩
 | (k,x)::r=>by
  obtain⟨i1,i2⟩:=rY f v r
  rw [show bV f v ((k,x)::r)=(if k=f then (k,v)::r else (k,x)::bV f v r) from rfl]
  by_cases hk:k=f
  ·rw [if_pos hk]
   subst hk
   exact⟨by simp,fun g h=>by simpa using h⟩
  ·rw [if_neg hk]
   refine⟨?_,fun g h=>?_⟩
   ·rw [abw]
    exact aam _ i1
   ·rw [abw] at h ⊢
    rcases aaK.mp h with e|e
    ·exact aaK.mpr (.inl e)
    ·exact aam _ (i2 g e)
theorem t6 (f:Str) (v:V):∀fs:List (Str × V),(bV f v fs).length<=fs.length+1
 | []=>by simp [bV]
 | (k,x)::r=>by
  have ih:=t6 f v r
  rw [show bV f v ((k,x)::r)=(if k=f then (k,v)::r else (k,x)::bV f v r) from rfl]
  by_cases hk:k=f
  ·rw [if_pos hk,aal,aal];omega
  ·rw [if_neg hk,aal,aal];omega
theorem ma.some_of {v:V} {o:Option aae} (r:ma (some v) o):∃u,o=some u/\RelV v u:=by
 cases o with
 | none=>exact(show False from r).elim
 | some u=>exact⟨u,rfl,r⟩
theorem ma.none_of {o:Option aae} (r:ma none o):o=none:=by
 cases o with
 | none=>rfl
 | some u=>exact(show False from r).elim
theorem Kj {v:V} {u:aae} (r:RelV v u):air u=true:=by
 cases v with
 | tok x t=>cases (show u=ac1 x t from r);rfl
 | cg=>cases (show u=ack from r);rfl
 | bl b=>cases (show u=ae2 b from r);rfl
 | int i=>obtain⟨t,e⟩:=(show ∃t,u=ah1 i t from r);cases e;rfl
 | str x=>obtain⟨t,e⟩:=(show ∃t,u=ac1 x t from r);cases e;rfl
 | Mi b=>obtain⟨t,e⟩:=(show ∃t,u=Value.bytes b t from r);cases e;rfl
 | SW b=>obtain⟨t,e⟩:=(show ∃t,u=aiu b t from r);cases e;rfl
 | ref a=>cases (show u=abF a from r);rfl
 | ty n=>cases (show u=Value.type n from r);rfl
section
variable {P:abn} {w:abU} {H H':Hp} {h h':Heap} {a C dx:aay} {fs j3:List (Str × V)}
theorem vp (hok:mm P w H h) (e:H a=some (.ins C dx fs)):∃mA,GH h a dx C mA/\(∀f,ma (fs.lookup f) (mA f))/\aim mA (fs.map (·.1))/\fs.length<=1000/\H dx=some (.own a):=by
 obtain⟨d,z,ne,ob,mA,n,r,q⟩:=(show cL P w H h a (.ins C dx fs) from hok a _ e)
 exact⟨mA,⟨ob,n,ne⟩,r,q,z,d⟩
end
structure Em (K:aaa) (C:aay):Prop where
 pg:adu K C agm=true
 hd:adB K C=true
 po:adQ K C=true
 sa:adi K (.ref C) "__setattr__"=some (some (.builtin "object.__setattr__"))
theorem Em.get {K:aaa} {C:aay} (c:Em K C) (f:Str):adu K C f=true:=c.pg
def cY (K:aaa) (C:aay) (f:Str):Prop:=adi K (.ref C) f=some none
theorem cY.Wd {K:aaa} {C:aay} {f:Str} (n:cY K C f):ahs K C f=some none:=by
 unfold ahs
 rw [show adi K (.ref C) f=some none from n]
 rfl
structure Meth (K:aaa) (C:aay) (m:Str) (f:aay):Prop where
 at_:adi K (.ref C) m=some (some (.ref f))
 fn:ain K (.ref f)=true
 kp:adM K (.ref f)=true
section
variable {X:Cx} {pins:List (aay × Obj)} {σ:St} {H:Hp} {s:aah} {a C dx:aay} {fs:List (Str × V)} {f:Str} {v:V} {A:abP} {E:aae->aah->Prop}
theorem getattr_ok {b:Bool} {Q:aae->aah->Prop} (I:Inv X pins σ H s) (e:H a=some (.ins C dx fs)) (c:Em X.K C) (n:cY X.K C f) (l:fs.lookup f=some v)
  (h:∀u s',Inv X pins σ H s'->RelV v u->Q u s'):aby (model X.prog X.w) A (getAttr (.ref a) f b) Q E s:=by
 obtain⟨mA,O,r,_,_,_⟩:=vp I.hok e
 obtain⟨u,q,ru⟩:=ma.some_of (v:=v) (o:=mA f) (by rw [<- l];exact r f)
 exact get_map I.oE O (c.get f) c.hd n q (Kj ru) (h u _ (I.tok _) ru)
theorem j6 {m:Str} {g:aay} {pl:Sem Bool} {Q:aae × List aae->aah->Prop} (I:Inv X pins σ H s) (e:H a=some (.ins C dx fs)) (c:Em X.K C) (k:Meth X.K C m g) (l:fs.lookup m=none)
  (h:Q (.ref g,[.ref a]) s):aby (model X.prog X.w) A (getMethod (.ref a) m pl) Q E s:=by
 obtain⟨mA,O,r,_,_,_⟩:=vp I.hok e
 have hn:mA m=none:=ma.none_of (by rw [<- l];exact r m)
 exact MK I.oE O (c.get m) k.at_ k.fn hn h
theorem GJ {y:V} {u:aae} {Q:Unit->aah->Prop} (I:Inv X pins σ H s) (e:H a=some (.ins C dx fs)) (c:Em X.K C) (n:cY X.K C f) (hl:fs.length<1000) (ry:RelV y u)
  (h:∀s',Inv X pins σ (upd H a (.ins C dx (bV f y fs))) s'->Q () s'):aby (model X.prog X.w) A (setAttr (.ref a) f u) Q E s:=by
 obtain⟨mA,O,r,wi,_,F⟩:=vp I.hok e
 have hz:(fs.map (·.1)).length<=aaj:=by rw [Lm9,aaz];omega
 refine PH I.oE O c.sa c.po n.Wd c.hd wi hz fun h' B sb=>h _ ?_
 have hd:∃o,h'.get? dx=some o:=let ⟨o,_,_,G,_⟩:=B.ns;⟨o,G⟩
 refine I.write (x:=a) (e:=dx) (by rw [e];exact adH) (.inr F) (fun b q J z=>(sb.2 b J).trans z) hd ?_
 refine⟨by rw [aD O.ne];exact F,?_,O.ne,B.obj,_,B.ns,fun g=>?_,fun g L=>?_⟩
 ·have:=t6 f y fs;omega
 ·show ma ((bV f y fs).lookup g) (if g=f then some u else mA g)
  rw [aV]
  by_cases q:g=f
  ·rw [if_pos q,if_pos q];exact ry
  ·rw [if_neg q,if_neg q];exact r g
 ·by_cases q:g=f
  ·rw [q];exact(rY f y fs).1
  ·refine(rY f y fs).2 g (wi g fun z=>L ?_)
   show(if g=f then some u else mA g)=none
   rw [if_neg q];exact z
theorem Inv.made (I:Inv X pins σ H s):Inv X pins σ (upd (upd H s.heap.objs.size (.own (s.heap.objs.size+1))) (s.heap.objs.size+1) (.ins C s.heap.objs.size []))
  { s with heap:=(s.heap.push acu).push (adD C s.heap.objs.size) }:=by
 have z:(s.heap.push acu).get? s.heap.objs.size=some acu:=aa0 s.heap rfl
 have B:((s.heap.push acu).push (adD C s.heap.objs.size)).get? (s.heap.objs.size+1)=some (adD C s.heap.objs.size):=by
  have:=aa0 (s.heap.push acu) (o:=adD C s.heap.objs.size) rfl
  rwa [adN] at this
 have F:(s.heap.push acu).Ns s.heap.objs.size (fun _=>none):=⟨acu,#[],_,z,rfl,(fun e G=>absurd G (by simp)),fun _=>rfl⟩
 have I1:=I.laid (a:=s.heap.objs.size) (o:=.own (s.heap.objs.size+1)) (h':=s.heap.push acu) (t':=s.toks) (fun b u q=>aag _ q) (aar _) ⟨_,z⟩
 refine I1.laid (a:=s.heap.objs.size+1) (o:=.ins C s.heap.objs.size []) (t':=s.toks) (fun b u q=>aag _ q) (agO (adN _ _)) ?_
 have ne:s.heap.objs.size≠s.heap.objs.size+1:=abj (Nat.lt_succ_self _)
 refine⟨by rw [aD ne,aj],ab4 _,ne,B,fun _=>none,(Heap.Ns1.of_empty F).at fun o q=>aag _ q,fun _=>adH,fun y J=>absurd rfl J⟩
theorem attr_of {prog:abn} {w:abU} {env:Env} {e:Expr} {f:Str} {pos:Pos} {s:aah} {Q:aae->aah->Prop} (q:attributeBase e f env (eval e env)=eval e env)
  (h:aby (model prog w) A (eval e env) (fun o s₁=>aby (model prog w) A (getAttr o f true) Q E s₁) E s):aby (model prog w) A (eval (.Attribute e f pos) env) Q E s :=
 Attribute_any_ h (by rw [arm_eval_Attribute,q])
end
def tFld (K:aaa) (ta:TE) (f:Str):TE:=fun σ H Q=>ta σ H fun x H1=>∃a C dx fs v,x=.ref a/\H1 a=some (.ins C dx fs)/\Em K C/\cY K C f/\fs.lookup f=some v/\Q v H1
def aa7 (K:aaa) (ta tv:TE) (f:Str):TS:=fun D σ H=>tv σ H fun y H1=>ta σ H1 fun x U=>∃a C dx fs,x=.ref a/\U a=some (.ins C dx fs)/\Em K C/\cY K C f/\fs.length<1000 /\
 D.nx σ (upd U a (.ins C dx (bV f y fs)))
section
variable {X:Cx} {o e b9:Expr} {f:Str} {pos f8 PK:Pos} {ta tv:TE}
theorem pe_fld (F:PE X e ta) (B:attributeBase e f X.env (eval e X.env)=eval e X.env):PE X (.Attribute e f pos) (tFld X.K ta f):=by
 intro pins s σ H Q I h
 refine attr_of B (thn (F pins s σ H _ I h) fun u s1 Zq=>?_)
 obtain⟨x,H1,I1,rx,a,C,dx,fs,v,ex,z,c,n,l,q⟩:=Zq
 subst ex
 obtain rfl:u=abF a:=rx
 exact getattr_ok I1 z c n l fun G s2 I2 ru=>⟨v,H1,I2,ru,q⟩
theorem ps_fld (ha:PE X o ta) (B:PE X b9 tv) (hs:swapsWith b9 (some (.Attribute o f f8)) pos.line X.env=pure false):PS X (.Assign [.Attribute o f f8] b9 pos) (aa7 X.K ta tv f):=by
 intro pins s σ H D I h
 refine plainObj_wpAny_Assign_Attribute (thn (B pins s σ H _ I h) fun u s1 ⟨y,H1,I1,ry,q⟩=>thn (ha pins s1 σ H1 _ I1 q) fun ov s2 Zq=>?_) hs
 obtain⟨x,U,I2,rx,a,C,dx,fs,ex,z,c,n,l,q2⟩:=Zq
 subst ex
 obtain rfl:ov=abF a:=rx
 exact GJ I2 z c n l ry fun s3 I3=>⟨σ,_,I3,q2⟩
theorem RU {pl:Sem Bool} {m:Str} {apos:Pos} {args:List Expr} {pins:List (aay × Obj)} {s:aah} {σ:St} {H:Hp} {Q:aae->aah->Prop} {te:TE} (B:PE X e te) (I:Inv X pins σ H s)
  (h:te σ H fun x H1=>∃a C dx fs g,x=.ref a/\H1 a=some (.ins C dx fs)/\Em X.K C/\Meth X.K C m g/\fs.lookup m=none /\
   ∀s1,Inv X pins σ H1 s1->aby (model X.prog X.w) X.A (callWith pos (.ref g) [.ref a] (backTo pos (starEach args X.env)) (backToKw pos (keywordEach [] X.env))) Q X.xe s1)
  (F:eval (.Call (.Attribute e m apos) args [] pos) X.env=(do
   let ov <- eval e X.env
   standAt apos.atName
   let (f,first) <- holding [ov] (getMethod ov m pl)
   callWith pos f first (backTo pos (starEach args X.env)) (backToKw pos (keywordEach [] X.env)))) :
  aby (model X.prog X.w) X.A (eval (.Call (.Attribute e m apos) args [] pos) X.env) Q X.xe s:=by
 refine aen (pl:=pl) (thn (B pins s σ H _ I h) fun u s1 Zq=>?_) F
 obtain⟨x,H1,I1,rx,a,C,dx,fs,g,ex,z,c,k,l,q⟩:=Zq
 subst ex
 obtain rfl:u=abF a:=rx
 exact j6 I1 z c k l (q s1 I1)
end
section
variable {X:Cx} {pins:List (aay × Obj)} {σ:St} {H:Hp} {s:aah} {A:abP} {E:aae->aah->Prop} {Q:aae->aah->Prop} {c:aae} {b:Bool}
inductive rZ (K:aaa) (H:Hp):V->aae->Prop where
 | cg:rZ K H .cg (.type "NoneType")
 | bl (x:Bool):rZ K H (.bl x) (.type "bool")
 | int (i:Int):rZ K H (.int i) (.type "int")
 | str (x:Str):rZ K H (.str x) (.type "str")
 | SW (x:UInt64):rZ K H (.SW x) (.type "float")
 | lst {a:aay} {xs:List V} (e:H a=some (.lst xs)):rZ K H (.ref a) (.type "list")
 | jY {a:aay} {o:Obj} {xs:List V} (e:H a=some (.jY o (.lst xs))):rZ K H (.ref a) (.type "list")
 | tup {a:aay} {xs:List V} (e:H a=some (.tup xs)):rZ K H (.ref a) (.type "tuple")
 | dK {a:aay} {kvs:List (Key × V)} (e:H a=some (.dK kvs)):rZ K H (.ref a) (.type "dict")
 | dT {a:aay} {kvs:List (List Key × V)} (e:H a=some (.dT kvs)):rZ K H (.ref a) (.type "dict")
 | ins {a C dx:aay} {fs:List (Str × V)} (e:H a=some (.ins C dx fs)) (cl:Em K C) (ha:adi K (.ref C) "__class__"=some (some (.builtin "object.__class__")))
   (hn:agi K (.builtin "object.__class__") "__get__"=some (some (.builtin "getset_descriptor.__get__"))) (We:PySem.W.takesIn K (.builtin "object.__class__")=some true)
   (hm:ah4 K C (.type "object")=some true):rZ K H (.ref a) (.ref C)
theorem Kk {x:V} {u t:aae} (I:Inv X pins σ H s) (rx:RelV x u) (ty:rZ X.K H x t) (e:acj X.K t c=some b) (h:∀tk,Q (.bool b) { s with toks:=tk }) :
  aby (model X.prog X.w) A (call (.builtin "isinstance") [u,c]) Q E s:=by
 cases ty with
 | cg=>cases (show u=ack from rx);exact acf PySem.W.kitx_none I.oE adH e (fun z=>nomatch z) h
 | bl y=>cases (show u=ae2 y from rx);exact acf PySem.W.kitx_bool I.oE adH e (fun z=>nomatch z) h
 | int i=>obtain⟨t,q⟩:=(show ∃t,u=ah1 i t from rx);cases q;exact acf PySem.W.kitx_int I.oE adH e (fun z=>nomatch z) h
 | str y=>obtain⟨t,q⟩:=(show ∃t,u=ac1 y t from rx);cases q;exact acf PySem.W.kitx_str I.oE adH e (fun z=>nomatch z) h
 | SW y=>obtain⟨t,q⟩:=(show ∃t,u=aiu y t from rx);cases q;exact acf PySem.W.kitx_float I.oE adH e (fun z=>nomatch z) h
 | @lst a xs B =>
  cases (show u=abF a from rx)
  obtain⟨_,_,n,_,h1⟩:=(show cL X.prog X.w H s.heap a (.lst xs) from I.hok a _ B)
  exact acf aii I.oE ⟨_,h1,rfl⟩ e (fun z=>nomatch z) h
 | @jY a ob xs B =>
  cases (show u=abF a from rx)
  obtain⟨_,_,_,n,_,h1⟩:=(show cL X.prog X.w H s.heap a (.jY ob (.lst xs)) from I.hok a _ B)
  exact acf aii I.oE ⟨_,h1,rfl⟩ e (fun z=>nomatch z) h
 | @tup a xs B =>
  cases (show u=abF a from rx)
  obtain⟨_,_,_,p⟩:=(show cL X.prog X.w H s.heap a (.tup xs) from I.hok a _ B)
  obtain⟨o,h1,h2,_⟩:=p
  exact acf PySem.W.kitx_tuple I.oE ⟨o,h1,h2⟩ e (fun z=>nomatch z) h
 | @dK a kvs B =>
  cases (show u=abF a from rx)
  obtain⟨_,_,vs,_,p⟩:=(show cL X.prog X.w H s.heap a (.dK kvs) from I.hok a _ B)
  obtain⟨o,es,ep,h1,h2,_⟩:=p
  exact acf aij I.oE ⟨o,h1,h2.1⟩ e (fun z=>nomatch z) h
 | @dT a kvs B =>
  cases (show u=abF a from rx)
  obtain⟨_,_,xs,_,o,es,ep,h1,h2,_⟩:=(show cL X.prog X.w H s.heap a (.dT kvs) from I.hok a _ B)
  exact acf aij I.oE ⟨o,h1,h2.1⟩ e (fun z=>nomatch z) h
 | @ins a C dx fs B cl ha hn We hm =>
  cases (show u=abF a from rx)
  obtain⟨mA,O,_⟩:=vp I.hok B
  obtain⟨od,J,_⟩:=O.look
  exact acf (PySem.W.kitx_own (cl.get _) cl.hd ha hn We hm) I.oE J e (fun z=>nomatch z) h
end
structure dy (k:Nat) (A:abP):Prop where
 hd:A.handled=none
 dp:A.depth+3 * k+5<recursionLimit
 un:A.units+16 * k+200<cLine
 gd:A.guards=some []
theorem dy.mono {j k:Nat} {A:abP} (r:dy k A) (h:j<=k):dy j A:=⟨r.hd,by have:=r.dp;omega,by have:=r.un;omega,r.gd⟩
theorem dy.q {j k:Nat} {A:abP} (r:dy k A) (h:autoParam (j<=k) z1._auto_1):dy j A:=r.mono h
theorem dy.deeper {k:Nat} {A:abP} (r:dy (k+1) A) (env:Env):dy k (A.deeper env) :=
 ⟨r.hd,by have:=r.dp;show A.depth+1+3 * k+5<_;omega,by have:=r.un;show A.units+3+16 * k+200<_;omega,r.gd⟩
theorem GK {A:abP} {C:aay} {us:List aae} {kw:List (Str × aae)}:(A.under (.builtin "type.__call__" ⟨.ref C::us,kw⟩)).depth=A.depth+1:=by
 first|rfl|simp [aht,Code.weight,Code.isCreation,Code.isGuard,Code.isCaller,Code.frames,aio,guardIds]
theorem GL {A:abP} {C:aay} {us:List aae} {kw:List (Str × aae)}:(A.under (.builtin "type.__call__" ⟨.ref C::us,kw⟩)).units=A.units+1:=by
 first|rfl|simp [aht,Code.cUnits,Code.frames,aio]
theorem En {A:abP} {C:aay} {us:List aae} {kw:List (Str × aae)}:(A.under (.builtin "type.__call__" ⟨.ref C::us,kw⟩)).guards=A.guards:=by
 first|rfl|simp [aht,pushGuards,Code.guards,Code.isGuard,guardIds]
theorem dy.make {k:Nat} {A:abP} (r:dy (k+1) A) (C:aay) (us:List aae) (kw:List (Str × aae)):dy k (A.under (.builtin "type.__call__" ⟨.ref C::us,kw⟩)) :=
 ⟨r.hd,by have:=r.dp;rw [GK];omega,by have:=r.un;rw [GL];omega,by rw [En];exact r.gd⟩
theorem dy.depth {k:Nat} {A:abP} (r:dy k A):A.depth<recursionLimit:=by have:=r.dp;omega
theorem dy.units {k:Nat} {A:abP} (r:dy k A):A.units+64<cLine:=by have:=r.un;omega
def GN:TA:=fun _ H Q=>Q [] H
def vQ (ta:TE) (tr:TA):TA:=fun σ H Q=>ta σ H fun x H1=>tr σ H1 fun xs U=>Q (x::xs) U
section
variable {X:Cx} {e:Expr} {es:List Expr} {te:TE} {t:TA} {pos:Pos}
theorem af:PA X [] GN:=fun _ _ _ _ H Q I h=>agY ⟨[],H,I,.nil,h⟩
theorem aa (ha:PE X e te) (hr:PA X es t) (hs:autoParam (starEach (e::es) X.env=(false,eval e X.env)::starEach es X.env) z0._auto_1):PA X (e::es) (vQ te t):=by
 intro pos pins s σ H Q I h
 rw [hs]
 show aby _ _ (spliced ((false,eval e X.env)::backTo pos (starEach es X.env))) _ _ s
 refine af6 (thn (ha pins s σ H _ I h) fun u s1 Zq=>?_)
 obtain⟨x,H1,I1,q,q1⟩:=Zq
 exact thn (hr pos pins s1 σ H1 _ I1 q1) fun us s2 ⟨xs,U,I2,r2,q2⟩=>⟨x::xs,U,I2,.cons q r2,q2⟩
def Tc (t:TA):TE:=fun σ H Q=>t σ H fun xs H1=>xs.length<=aaj/\∀p,H1 p=none->Q (.ref p) (upd H1 p (.tup xs))
def aa8 (t:TA):TE:=fun σ H Q=>t σ H fun xs H1=>xs.length<=aaj/\∀p,H1 p=none->Q (.ref p) (upd H1 p (.lst xs))
theorem a8 {x1} (h:PA X es t):PE X (.Tuple es x1 pos) (Tc t):=by
 intro pins s σ H Q I F
 refine wpAny_Tuple_spliced (thn (h pos pins s σ H _ I F) fun us s1 ⟨xs,H1,I1,r,z,q⟩=>⟨by rw [<- r.length];exact z,?_⟩)
 have B:H1 s1.heap.objs.size=none:=I1.hok.fresh (aar _)
 refine⟨.ref s1.heap.objs.size,upd H1 s1.heap.objs.size (.tup xs),I1.laid (t':=s1.toks) (fun b u e=>aag _ e) (aar _) ?_,rfl,q _ B⟩
 exact⟨z,us,r,⟨_,aa0 _ rfl,rfl,_,rfl⟩⟩
theorem bb (h:PA X es t):PE X (.List es pos) (aa8 t):=by
 intro pins s σ H Q I F
 refine wpAny_List_spliced (thn (h pos pins s σ H _ I F) fun us s1 ⟨xs,H1,I1,r,z,q⟩=>⟨by rw [<- r.length];exact z,?_⟩)
 have B:H1 s1.heap.objs.size=none:=I1.hok.fresh (aar _)
 refine⟨.ref s1.heap.objs.size,upd H1 s1.heap.objs.size (.lst xs),I1.laid (t':=s1.toks) (fun b u e=>aag _ e) (aar _) ?_,rfl,q _ B⟩
 exact⟨z,us,0,r,aa0 _ rfl⟩
end
abbrev Sp:=List V->Hp->VK->XK->Prop
abbrev Kl:=List Env->Hp->aah->XK->aae->aah->Prop
structure GO (P:abn) (w:abU) (K:aaa) (mg:Str->Option aae) (base:Heap) (A:abP) (outer:List Env) (s:aah) (H:Hp):Prop where
 frames:A.frames=some outer
 mod:Mod K mg base
 bs:∀b o,base.get? b=some o->s.heap.get? b=some o/\H b=none
 Pg:base.objs.size<=s.heap.objs.size
 qd:s.heap.FunFrames base outer
 Ph:∀b∈jd outer,H b=none
 hok:mm P w H s.heap
 bare:AllBare s.gens
def CE (outer:List Env) (P:abn) (w:abU) (H:Hp) (s:aah) (Q:VK) (u:aae) (s':aah):Prop :=
 ∃v H',s'.os=s.os/\AllBare s'.gens/\Un (jd outer) [] H H' s.heap s'.heap/\mm P w H' s'.heap/\RelV v u/\Q v H'
def CR (CX:Kl) (outer:List Env) (P:abn) (w:abU) (H:Hp) (s:aah) (Q:VK) (E:XK) (r:Result) (s':aah):Prop :=
 match r with
 | .ok (.ret u)=>CE outer P w H s Q u s'
 | .ok _=>False
 | .error e=>CX outer H s E e s'
structure aX (P:abn) (w:abU) (K:aaa) (mg:Str->Option aae) (base:Heap) (CX:Kl) (k:Nat) (f:aay) (fd:abZ) (ps:List Str) (sp:Sp):Prop where
 len:∀vs H Q E,sp vs H Q E->vs.length=ps.length
 run:∀(A:abP) (outer:List Env) (s:aah) (H:Hp) (args:Args) (us:List aae) (vs:List V) (Q:VK) (E:XK),dy k A->GO P w K mg base A outer s H->BindsTo s fd args (ps.zip us)->Vals vs us->sp vs H Q E ->
  codeAny (model P w) A (.call (.ref f) args) (CR CX outer P w H s Q E) s
theorem GO.make {P:abn} {w:abU} {K:aaa} {mg:Str->Option aae} {base:Heap} {A:abP} {outer:List Env} {s:aah} {H:Hp} (e:GO P w K mg base A outer s H) (C:aay) (us:List aae) (kw:List (Str × aae)) :
  GO P w K mg base (A.under (.builtin "type.__call__" ⟨.ref C::us,kw⟩)) outer s H:=⟨by first|exact e.frames|(simpa [aht,Code.envs,aio,pushEnvs] using e.frames),e.mod,e.bs,e.Pg,e.qd,e.Ph,e.hok,e.bare⟩
section
variable {X:Cx} {pins:List (aay × Obj)} {σ:St} {H:Hp} {s s':aah}
theorem Inv.Td (I:Inv X pins σ H s):GO X.prog X.w X.K X.mg X.base X.A X.stack s H :=
 ⟨I.ok.frames,I.ok.mod,I.bs,ab0 I.ok.Pg I.sz,I.stack,I.BN,I.hok,I.bare⟩
theorem Inv.after {Q:VK} {u:aae} (I:Inv X pins σ H s) (h:CE X.stack X.prog X.w H s Q u s'):EP X pins σ Q u s':=by
 obtain⟨v,H',os,bare,un,hok,r,q⟩:=h
 obtain⟨B,g,d,t,os'⟩:=s'
 obtain rfl:os'=s.os:=os
 exact⟨v,H',I.call (h':=B) (g':=g) (d':=d) (t':=t) (ch:=[]) un hok bare (fun b z=>absurd z (by simp)),r,q⟩
end
def MM (sp:Sp) (pD:List V) (E:XK) (t:TA):TE:=fun σ H Q=>t σ H fun vs H1=>sp (vs++pD) H1 Q E
def Ja (C:aay) (m:Str) (sp:Sp) (pD:List V) (E:XK) (ta:TE) (t:TA):TE:=fun σ H Q=>ta σ H fun x H1=>∃a dx fs,x=.ref a/\H1 a=some (.ins C dx fs)/\fs.lookup m=none /\
 t σ H1 fun vs U=>sp (x::(vs++pD)) U Q E
def RV (C:aay) (sp:Sp) (pD:List V) (E:XK) (t:TA):TE:=fun σ H Q=>t σ H fun vs H1=>∀x dx,H1 x=none->H1 dx=none->dx≠x ->
 sp (.ref x::(vs++pD)) (upd (upd H1 dx (.own x)) x (.ins C dx [])) (fun v U=>v=.cg/\Q (.ref x) U) E
def Binds (K:aaa) (fd:abZ) (ps:List Str) (ds:List aae):Prop :=
 ∀(s:aah) (us:List aae),K.In s.heap->(us++ds).length=ps.length->BindsTo s fd ⟨us,[]⟩ (ps.zip (us++ds))
theorem Binds.all {K:aaa} {fd:abZ} {ps:List Str} (h:∀us:List aae,us.length=ps.length->bindArgs fd ⟨us,[]⟩=pure (ps.zip us)):Binds K fd ps []:=fun s us _ hl=>by
 rw [abI] at hl ⊢
 exact .of_eq (h us hl)
def Passes (CX:Kl) (X:Cx) (E:XK):Prop:=∀(pins:List (aay × Obj)) (σ:St) (H:Hp) (s:aah) (e:aae) (s':aah),Inv X pins σ H s->CX X.stack H s E e s'->X.xe e s'
section
variable {X:Cx} {CX:Kl} {k:Nat} {f C:aay} {fd:abZ} {ps:List Str} {sp:Sp} {pD:List V} {ds:List aae} {E:XK} {x m:Str} {p pos apos:Pos} {e o:Expr} {es:List Expr} {ta:TE} {t:TA}
theorem BV {pins:List (aay × Obj)} {σ:St} {H:Hp} {s:aah} {Q:VK} {us:List aae} {vs:List V} (F:aX X.prog X.w X.K X.mg X.base CX k f fd ps sp) (hr:dy k X.A) (z:Binds X.K fd ps ds) (hd:Vals pD ds) (B:Passes CX X E)
  (I:Inv X pins σ H s) (r:Vals vs us) (h:sp (vs++pD) H Q E):aby (model X.prog X.w) X.A (call (.ref f) us) (EP X pins σ Q) X.xe s:=by
 have r2:Vals (vs++pD) (us++ds):=r.append hd
 have hl:(us++ds).length=ps.length:=by rw [<- r2.length];exact F.len _ _ _ _ h
 refine wpAny_call (codeAny_mono (F.run X.A X.stack s H ⟨us,[]⟩ (us++ds) (vs++pD) Q E hr I.Td (z s us I.oE hl) r2 h) fun r s' q=>?_)
 cases r with
 | error e=>exact B pins σ H s e s' I q
 | ok fl =>
  cases fl with
  | ret u=>exact I.after q
  | next=>exact ac8 q
  | brk=>exact ac8 q
  | cont=>exact ac8 q
theorem Jb (F:aX X.prog X.w X.K X.mg X.base CX k f fd ps sp) (hr:dy k X.A) (J:Gl X x) (hm:X.mg x=some (.ref f)) (hk:adM X.K (.ref f)=true) (B:Binds X.K fd ps ds) (hd:Vals pD ds) (L:Passes CX X E)
  (ha:PA X (e::es) t) (yS:autoParam ((x == ("__debug__":Str))=false) z1._auto_1) (G:autoParam (starEach (e::es) X.env=(false,eval e X.env)::starEach es X.env) z0._auto_1) (z:autoParam ((backTo pos (starEach es X.env)).any (·.1)=false) z0._auto_1) :
  PE X (.Call (.Name x p) (e::es) [] pos) (MM sp pD E t):=by
 intro pins s σ H Q I h
 refine wpAny_Call_Name_kw (nZ I J hm ?_ yS)
 refine aei (h₀:=X.base) I.ok.mod.Px hk (thn (ha pos pins s σ H _ I h) fun us s1 ⟨vs,H1,I1,r,q⟩=>⟨I1.oE,?_⟩) G z
 exact BV F hr B hd L I1 r q
theorem PL {pl:Sem Bool} (J:PE X o ta) (c:Em X.K C) (hm:Meth X.K C m f) (F:aX X.prog X.w X.K X.mg X.base CX k f fd ps sp) (hr:dy k X.A) (G:Binds X.K fd ps ds) (hd:Vals pD ds) (O:Passes CX X E) (ha:PA X (e::es) t)
  (vM:autoParam (starEach (e::es) X.env=(false,eval e X.env)::starEach es X.env) z0._auto_1) (z:autoParam ((backTo pos (starEach es X.env)).any (·.1)=false) z0._auto_1)
  (L:autoParam (eval (.Call (.Attribute o m apos) (e::es) [] pos) X.env=(do
   let ov <- eval o X.env
   standAt apos.atName
   let (f,first) <- holding [ov] (getMethod ov m pl)
   callWith pos f first (backTo pos (starEach (e::es) X.env)) (backToKw pos (keywordEach [] X.env)))) z0._auto_1) :
  PE X (.Call (.Attribute o m apos) (e::es) [] pos) (Ja C m sp pD E ta t):=by
 intro pins s σ H Q I h
 refine aen (pl:=pl) (thn (J pins s σ H _ I h) fun u s1 Zq=>?_) L
 obtain⟨x,H1,I1,rx,a,dx,fs,ex,B,l,q⟩:=Zq
 subst ex
 obtain rfl:u=abF a:=rx
 refine j6 I1 B c hm l ?_
 refine aei (first:=[.ref a]) (h₀:=X.base) I.ok.mod.Px hm.kp (thn (ha pos pins s1 σ H1 _ I1 q) fun us s2 ⟨vs,U,I2,r,q2⟩=>⟨I2.oE,?_⟩) vM z
 exact BV (us:=.ref a::us) (vs:=.ref a::vs) F hr G hd O I2 (.cons rfl r) q2
theorem MN {pl:Sem Bool} (G:PE X o ta) (c:Em X.K C) (hm:Meth X.K C m f) (F:aX X.prog X.w X.K X.mg X.base CX k f fd ps sp) (hr:dy k X.A) (B:Binds X.K fd ps ds) (hd:Vals pD ds) (L:Passes CX X E)
  (J:autoParam (eval (.Call (.Attribute o m apos) [] [] pos) X.env=(do
   let ov <- eval o X.env
   standAt apos.atName
   let (f,first) <- holding [ov] (getMethod ov m pl)
   callWith pos f first (backTo pos (starEach [] X.env)) (backToKw pos (keywordEach [] X.env)))) z0._auto_1) :
  PE X (.Call (.Attribute o m apos) [] [] pos) (Ja C m sp pD E ta GN):=by
 intro pins s σ H Q I h
 refine aen (pl:=pl) (thn (G pins s σ H _ I h) fun u s1 Zq=>?_) J
 obtain⟨x,H1,I1,rx,a,dx,fs,ex,z,l,q⟩:=Zq
 subst ex
 obtain rfl:u=abF a:=rx
 refine j6 I1 z c hm l ?_
 exact PySem.W.callWith_K0 (first:=[.ref a]) I1.oE hm.kp (BV (us:=[.ref a]) (vs:=[.ref a]) F hr B hd L I1 (.cons rfl .nil) q)
structure Mk (K:aaa) (C f:aay):Prop where
 makes:ael K C=true
 init:adi K (.ref C) "__init__"=some (some (.ref f))
 fn:ain K (.ref f)=true
 kp:adM K (.ref C)=true
theorem MO {pins:List (aay × Obj)} {σ:St} {H:Hp} {s:aah} {Q:VK} {us:List aae} {vs:List V} (M:Mk X.K C f) (F:aX X.prog X.w X.K X.mg X.base CX k f fd ps sp) (hr:dy (k+1) X.A) (G:Binds X.K fd ps ds) (hd:Vals pD ds)
  (J:Passes CX X E) (I:Inv X pins σ H s) (r:Vals vs us)
  (h:∀x dx,H x=none->H dx=none->dx≠x->sp (.ref x::(vs++pD)) (upd (upd H dx (.own x)) x (.ins C dx [])) (fun v U=>v=.cg/\Q (.ref x) U) E) :
  aby (model X.prog X.w) X.A (call (.ref C) us) (EP X pins σ Q) X.xe s:=by
 have z:=h (s.heap.objs.size+1) s.heap.objs.size (I.hok.fresh (Nat.le_succ _)) (I.hok.fresh (aar _)) (abj (Nat.lt_succ_self _))
 have I2:=Inv.made (C:=C) I
 have r2:Vals (V.ref (s.heap.objs.size+1)::(vs++pD)) (abF (s.heap.objs.size+1)::(us++ds)):=.cons rfl (r.append hd)
 have hl:(abF (s.heap.objs.size+1)::us++ds).length=ps.length:=by
  have e:=r2.length
  rw [F.len _ _ _ _ z] at e
  exact e.symm
 refine wpAny_call (ML (f:=f) I.oE M.makes M.init (beq_iff_eq.mp M.fn) (codeAny_mono (F.run _ X.stack _ _ ⟨abF (s.heap.objs.size+1)::us,[]⟩ (abF (s.heap.objs.size+1)::(us++ds)) _ _ E (hr.make C us [])
  (I2.Td.make C us []) (G _ (abF (s.heap.objs.size+1)::us) I2.oE hl) r2 z) fun r s' q=>?_))
 cases r with
 | error e=>exact J pins σ _ _ e s' I2 q
 | ok fl =>
  cases fl with
  | ret u =>
   obtain⟨v,H',I3,rv,B,q3⟩:=I2.after q
   subst B
   exact⟨rv,⟨V.ref (s.heap.objs.size+1),H',I3,rfl,q3⟩⟩
  | next=>exact ac8 q
  | brk=>exact ac8 q
  | cont=>exact ac8 q
theorem PM (M:Mk X.K C f) (F:aX X.prog X.w X.K X.mg X.base CX k f fd ps sp) (hr:dy (k+1) X.A) (J:Gl X x) (hm:X.mg x=some (.ref C)) (B:Binds X.K fd ps ds) (hd:Vals pD ds) (L:Passes CX X E)
  (ha:PA X (e::es) t) (yS:autoParam ((x == ("__debug__":Str))=false) z1._auto_1) (G:autoParam (starEach (e::es) X.env=(false,eval e X.env)::starEach es X.env) z0._auto_1) (z:autoParam ((backTo pos (starEach es X.env)).any (·.1)=false) z0._auto_1) :
  PE X (.Call (.Name x p) (e::es) [] pos) (RV C sp pD E t):=by
 intro pins s σ H Q I h
 refine wpAny_Call_Name_kw (nZ I J hm ?_ yS)
 refine aei (h₀:=X.base) I.ok.mod.Px M.kp (thn (ha pos pins s σ H _ I h) fun us s1 ⟨vs,H1,I1,r,q⟩=>⟨I1.oE,?_⟩) G z
 exact MO M F hr B hd L I1 r q
end
section
variable {X:Cx} {CX:Kl} {k:Nat} {f C:aay} {fd:abZ} {ps ks:List Str} {sp:Sp} {E:XK} {x m:Str} {p pos apos k6:Pos} {e o:Expr} {es:List Expr} {k7:List Keyword} {te ta:TE} {t tk:TA} {nm:Option Str}
variable {g:List aae->List aae->List aae} {gV:List V->List V->List V}
end
structure aB (N P:List Str) (sc:Scope):Prop where
 kind:sc.kind=.function
 co:sc.isCoroutine=false
 gen:sc.isGenerator=false
 nd:N.Nodup
 pre:N.take P.length=P
 par:∀x∈P,sc.names.lookup x=some .local\/sc.names.lookup x=some .cell
 Te:∀y∈sc.names,y.2≠.free
theorem AJ {kindOf:Str->Option NameKind} {x:Str}:∀{binds:List (Str × aae)} {m:Str->Option aae},(∀v,(x,v)∉binds)->bindL kindOf binds m x=m x
 | [],_,_=>rfl
 | (n,v)::r,m,h=>by
  unfold bindL
  rw [AJ fun w q=>h w (aam _ q)]
  split
  ·have:x≠n:=by rintro rfl;exact h v aas
   simp [this]
  ·rfl
theorem AK {kindOf:Str->Option NameKind} {x:Str}:∀{binds:List (Str × aae)} {m:Str->Option aae},(∀v,(x,v)∉binds)->bindC kindOf binds m x=m x
 | [],_,_=>rfl
 | (n,v)::r,m,h=>by
  unfold bindC
  rw [AK fun w q=>h w (aam _ q)]
  split
  ·rfl
  ·have:x≠n:=by rintro rfl;exact h v aas
   simp [this]
theorem AL {kindOf:Str->Option NameKind} {x:Str} {v:aae}:∀{P:List Str} {vs:List aae} {i:Nat} {m:Str->Option aae},P.Nodup->P[i]?=some x->vs[i]?=some v->kindOf x=some .local ->
  bindL kindOf (P.zip vs) m x=some v
 | [],_,_,_,_,h,_,_=>by simp at h
 | _::_,[],_,_,_,_,h,_=>by simp at h
 | p::P,w::vs,0,m,nd,h1,h2,hk=>by
  simp at h1 h2;subst h1;subst h2
  show bindL kindOf ((p,w)::P.zip vs) m p=_
  unfold bindL
  rw [AJ fun v q=>(ac6.mp nd).1 (agv q).1,if_pos hk]
  simp
 | p::P,w::vs,i+1,m,nd,h1,h2,hk=>by
  show bindL kindOf ((p,w)::P.zip vs) m x=_
  unfold bindL
  exact AL (i:=i) (ac6.mp nd).2 (by simpa using h1) (by simpa using h2) hk
theorem AM {kindOf:Str->Option NameKind} {x:Str} {v:aae}:∀{P:List Str} {vs:List aae} {i:Nat} {m:Str->Option aae},P.Nodup->P[i]?=some x->vs[i]?=some v->kindOf x≠some .local ->
  bindC kindOf (P.zip vs) m x=some v
 | [],_,_,_,_,h,_,_=>by simp at h
 | _::_,[],_,_,_,_,h,_=>by simp at h
 | p::P,w::vs,0,m,nd,h1,h2,hk=>by
  simp at h1 h2;subst h1;subst h2
  show bindC kindOf ((p,w)::P.zip vs) m p=_
  unfold bindC
  rw [AK fun v q=>(ac6.mp nd).1 (agv q).1,if_neg hk]
  simp
 | p::P,w::vs,i+1,m,nd,h1,h2,hk=>by
  show bindC kindOf ((p,w)::P.zip vs) m x=_
  unfold bindC
  exact AM (i:=i) (ac6.mp nd).2 (by simpa using h1) (by simpa using h2) hk
noncomputable def start (N:List Str) (vs:List V):St:=vs.map some++abL (N.length - vs.length) none
noncomputable def GP (CX:Kl) (P:abn) (w:abU) (K:aaa) (mg:Str->Option aae) (base:Heap) (N:List Str) (qual:Str) (scope:Scope) (f:aay) (cd:aae) (A:abP) (outer:List Env) (s:aah) (H:Hp) (E:XK):Cx where
 prog:=P
 w:=w
 K:=K
 mg:=mg
 base:=base
 A:=A.deeper (envOfC qual scope s.heap.objs.size f cd)
 N:=N
 s₀:=s
 H₀:=H
 env:=envOfC qual scope s.heap.objs.size f cd
 outer:=outer
 stack:=envOfC qual scope s.heap.objs.size f cd::outer
 ex:=[]
 calm:=true
 fn:=fun _=>true
 pn:=[]
 xe:=fun e s'=>aby (model P w) (A.deeper (envOfC qual scope s.heap.objs.size f cd)) (leaving (envOfC qual scope s.heap.objs.size f cd) e) (fun _ vR=>CX outer H s E e vR) (fun q vR=>CX outer H s E q vR) s'
theorem Eo {sc:Scope} {n:Nat} {x:Str} (h:sc.names.lookup x=some .cell):∃c,(cellsFrom n sc.names []).lookup x=some c:=by
 have q:=ahj sc.names n [] (.inl h)
 exact ads.mp q
theorem Km {CX:Kl} {P:abn} {w:abU} {K:aaa} {mg:Str->Option aae} {base:Heap} {N ps:List Str} {qual:Str} {scope:Scope} {f:aay} {cd:aae} {A:abP} {outer:List Env} {s s1:aah} {H:Hp} {E:XK} {us:List aae} {vs:List V}
  (S:aB N ps scope) (hd:A.handled=none) (B:GO P w K mg base A outer s H) (hl:vs.length=ps.length) (r:Vals vs us)
  (x:InCallC s s.heap.objs.size (bindL (envOfC qual scope s.heap.objs.size f cd).kindOf (ps.zip us) fun _=>none) (cellsFrom (s.heap.objs.size+1) scope.names []) (bindC (envOfC qual scope s.heap.objs.size f cd).kindOf (ps.zip us) fun _=>none) s1) :
  Inv (GP CX P w K mg base N qual scope f cd A outer s H E) [] (start N vs) H s1:=by
 have L:ps.length<=N.length:=by have:=congrArg adO S.pre;rw [aat] at this;omega
 obtain⟨h1,tk,rfl,hk⟩:=x.done
 have Wf:∀b:aay,b∉(GP CX P w K mg base N qual scope f cd A outer s H E).ex:=fun b z=>absurd (show b∈([]:List aay) from z) (by simp)
 refine⟨⟨B.mod,S.kind,rfl,rfl,aar _,fun y z c h1 h2=>?_,fun y F=>?_,fun y c _ h=>?_,fun _=>hd,Around.frames_deeper B.frames,.inr ⟨rfl,rfl⟩,fun b z=>absurd z (Wf b),B.bs,B.Pg,fun b _ _=>Wf b,fun b z=>absurd z (Wf b),B.qd,B.Ph⟩,
  rfl,B.bare,Un.kept hk,⟨_,x.toInCall.ns,fun i y v h1 h2 O=>?_⟩,fun y c h=>⟨_,x.cell y c h⟩,B.hok.fresh (aar _),fun y c h=>?_,fun p G=>absurd (show p∈([]:List (aay × Obj)) from G) (by simp),B.hok.kept hk,?_⟩
 ·exact name_of_addr x.apart (ach h1) (ach h2)
 ·have F:scope.names.lookup y=some .cell\/scope.names.lookup y=some .free:=F
  rcases F with F|F
  ·exact Eo F
  ·exact absurd rfl (S.Te _ (ach F))
 ·exact ahr (x.above y c (ach h))
 ·have hi:i<vs.length:=by
   unfold start at h2
   by_cases hi:i<vs.length
   ·exact hi
   ·rw [agC (by simpa using hi)] at h2
    rw [List.getElem?_replicate] at h2
    split at h2 <;> cases h2
  have ha:vs[i]?=some v:=by
   unfold start at h2
   rw [List.getElem?_append_left (by simpa using hi),abc] at h2
   cases e:vs[i]? with
   | none=>rw [e] at h2;cases h2
   | some a=>rw [e] at h2;cases h2;rfl
  obtain⟨u,J,rv⟩:=r.get ha
  have G:ps[i]?=some y:=by
   rw [<- S.pre,List.getElem?_take_of_lt (by omega)];exact h1
  have ndP:ps.Nodup:=by rw [<- S.pre];exact S.nd.sublist (List.take_sublist _ _)
  refine⟨u,rv,?_⟩
  rcases S.par y (acm G) with k|k
  ·exact .inl ⟨k,AL ndP G J k⟩
  ·obtain⟨c,e⟩:=Eo (n:=s.heap.objs.size+1) k
   refine .inr ⟨.inl k,c,e,?_⟩
   have q:=x.cell y c e
   rw [AM ndP G J (by show scope.names.lookup y≠_;rw [k];decide)] at q
   exact q
 ·exact B.hok.fresh (ahr (x.above y c (ach h)))
 ·unfold start
  show _=N.length
  rw [aab,Lm9,adn]
  omega
theorem RX {CX:Kl} {P:abn} {w:abU} {K:aaa} {mg:Str->Option aae} {base:Heap} {k:Nat} {f:aay} {name qual:Str} {params:Arguments} {body:List Stmt} {scope:Scope} {dV kV doc pm cP ct oc:aae} {an od:Option aay}
  {PN:Array (Option aae)} {N ps:List Str} {sp:Sp} (lk:K.lookup f=some ⟨oc,od,.func (ad3 name qual params body scope dV kV doc pm an cP ct),PN⟩) (B:agU K cP qual=true) (S:aB N ps scope)
  (len:∀vs H Q E,sp vs H Q E->vs.length=ps.length)
  (Ep:∀(A:abP) (outer:List Env) (s:aah) (H:Hp) (vs:List V) (Q:VK) (E:XK),dy k (A.deeper (envOfC qual scope s.heap.objs.size f cP))->sp vs H Q E ->
   ∃t,AG (GP CX P w K mg base N qual scope f cP A outer s H E) body t/\t { nx:=fun _ H'=>Q .cg H',rt:=Q } (start N vs) H) :
  aX P w K mg base CX (k+1) f (ad3 name qual params body scope dV kV doc pm an cP ct) ps sp:=by
 refine⟨len,fun A outer s H args us vs Q E hr z F r Kn=>?_⟩
 have hl:=len _ _ _ _ Kn
 have KX:K.In s.heap:=z.mod.Px.keeps fun b o e=>(z.bs b o e).1
 have lim:s.heap.NoLimit:=z.mod.nolimit.keeps fun b o e=>(z.bs b o e).1
 have hkind:∀y∈ps.zip us,scope.names.lookup y.1=some .local\/(scope.names.lookup y.1=some .cell/\((cellsFrom (s.heap.objs.size+1) scope.names []).lookup y.1).isSome=true):=fun⟨n,v⟩ Y=>by
  rcases S.par n (agv Y).1 with q|q
  ·exact .inl q
  ·exact .inr ⟨q,ahj _ _ _ (.inl q)⟩
 refine codeAny_call_function hr.depth (KX _ _ lk) rfl S.co S.gen rfl (PySem.W.codeRec_of KX B) (F _ _ _ _ ?_)
 refine wpAny_newFunctionEnv_cells S.kind hkind fun env G s1 x=>?_
 subst G
 refine⟨lim.keeps x.toInCall.keep,codeAny_func ?_⟩
 obtain⟨t,O,L⟩:=Ep A outer s H vs Q E (hr.deeper _) Kn
 have I:Inv (GP CX P w K mg base N qual scope f cP A outer s H E) [] (start N vs) H s1:=Km S hr.hd z hl r x
 refine wpAny_mono (O [] s1 (start N vs) H _ I L) (fun fl s' hs=>?_) fun e s' hs=>hs
 have fin:∀{σ':St} {H':Hp} {v:V} {u:aae},Inv (GP CX P w K mg base N qual scope f cP A outer s H E) [] σ' H' s'->RelV v u->Q v H'->CE outer P w H s Q u s' :=
  fun {σ' H' v u} J rv q=>⟨v,H',J.os,J.bare,J.base,J.hok,rv,q⟩
 cases fl with
 | ret u =>
  obtain⟨v,σ',H',J,rv,q⟩:=hs
  exact fin J rv q
 | next =>
  obtain⟨σ',H',J,q⟩:=hs
  exact fin (v:=V.cg) (u:=ack) J rfl q
 | brk =>
  obtain⟨_,_,_,q⟩:=hs
  exact ac8 q
 | cont =>
  obtain⟨_,_,_,q⟩:=hs
  exact ac8 q
section
variable {X:Cx} {x:Str} {p pos:Pos} {e:Expr} {es:List Expr} {t:TA} {id T:String} {r:List V->Hp->VK->Prop}
def tCB (r:List V->Hp->VK->Prop) (t:TA):TE:=fun σ H Q=>t σ H fun vs H1=>r vs H1 Q
theorem aK (z:fD X (.builtin id) r) (F:Gl X x) (hm:X.mg x=none) (G:bootBuiltins x=some (.builtin id)) (ha:PA X (e::es) t) (hn:autoParam (x≠"__name__") z1._auto_1) (yS:autoParam ((x == ("__debug__":Str))=false) z1._auto_1)
  (B:autoParam (starEach (e::es) X.env=(false,eval e X.env)::starEach es X.env) z0._auto_1) (q:autoParam ((backTo pos (starEach es X.env)).any (·.1)=false) z0._auto_1):PE X (.Call (.Name x p) (e::es) [] pos) (tCB r t):=by
 intro pins s σ H Q I h
 refine wpAny_Call_Name_kw (pA I F hm G ?_ hn yS)
 exact PyProof.Rows.callWith_builtin1 (thn (ha pos pins s σ H _ I h) fun us s1 ⟨vs,H1,I1,J,q1⟩=>z pins s1 σ H1 vs us Q I1 J q1) B q
theorem cy (z:fD X (.type T) r) (F:Gl X x) (hm:X.mg x=none) (G:bootBuiltins x=some (.type T)) (ha:PA X (e::es) t) (hn:autoParam (x≠"__name__") z1._auto_1) (yS:autoParam ((x == ("__debug__":Str))=false) z1._auto_1)
  (B:autoParam (starEach (e::es) X.env=(false,eval e X.env)::starEach es X.env) z0._auto_1) (q:autoParam ((backTo pos (starEach es X.env)).any (·.1)=false) z0._auto_1):PE X (.Call (.Name x p) (e::es) [] pos) (tCB r t):=by
 intro pins s σ H Q I h
 refine wpAny_Call_Name_kw (pA I F hm G ?_ hn yS)
 exact ac2 (thn (ha pos pins s σ H _ I h) fun us s1 ⟨vs,H1,I1,J,q1⟩=>z pins s1 σ H1 vs us Q I1 J q1) B q
end
end L2
namespace HT
open PySem PyProof.Rows
section
open PySem.SeqAt
open PySem.AutoSeq1 (wpAny_loadPart')
open PySem.MeetsSeq PySem.MeetsSeq2 PySem.MeetsSeq3
end
section
variable {prog:abn} {w:abU} {A:abP} {E:aae->aah->Prop} {s:aah}
theorem PQ {t b:aay} {vs ws:List aae} {Q:aae->aah->Prop} (L:IsTup s.heap t vs.toArray) (J:IsTup s.heap b ws.toArray) (G:vs≠[])
  (h1:ws=[]->Q (.ref t) s) (h2:ws≠[]->Q (.ref s.heap.objs.size) { s with heap:=s.heap.push { cls:=.type "tuple",data:=.seq (vs++ws).toArray } })
  (hsz:vs.length+ws.length<=aaj):aby (model prog w) A (binaryOp .Add (.ref t) (.ref b)) Q E s:=by
 obtain⟨⟨cls,dd,data,sl⟩,z,F,n,hd⟩:=id L
 obtain⟨⟨Wg,RY,data2,Jc⟩,Ko,Pk,n2,q⟩:=id J
 simp only at F hd Pk q
 subst F hd Pk q
 have e:vs.toArray++ws.toArray=(vs++ws).toArray:=by simp
 by_cases B:ws=[]
 ·exact concat_meets ⟨_,z,rfl⟩ ⟨_,Ko,rfl⟩ noFill_tuple_add seq_tuple_add agf af7 (ae3 _ _)
   (tuple_addW1 t b vs.toArray ws.toArray n n2 dd RY sl Jc (by simpa using G) (by simp [B])) ⟨z,Ko,h1 B⟩
 ·refine concat_meets ⟨_,z,rfl⟩ ⟨_,Ko,rfl⟩ noFill_tuple_add seq_tuple_add agf af7 (ae3 _ _)
   (tuple_addW2 t b vs.toArray ws.toArray n n2 dd RY sl Jc (by simpa using G) (by simpa using B) (by rw [aaB,aaB];exact hsz)) ⟨z,Ko,?_⟩
  rw [e]
  exact h2 B
noncomputable def eM (n d:Nat):Option Int->Nat
 | none=>d
 | some v=>if v<0 then (v+(n:Int)).toNat else min v.toNat n
theorem MP (n d:Nat):eM n d none=d:=rfl
theorem oa (n d k:Nat):eM n d (some (k:Int))=min k n:=by
 show(if (k:Int)<0 then ((k:Int)+(n:Int)).toNat else min (k:Int).toNat n)=min k n
 rw [if_neg (by omega),acv]
theorem Tf (n d:Nat) (hd:d<=n) (o:Option Int):eM n d o<=n:=by
 cases o with
 | none=>exact hd
 | some v =>
  show(if v<0 then (v+(n:Int)).toNat else min v.toNat n)<=n
  by_cases q:v<0
  ·rw [if_pos q];omega
  ·rw [if_neg q];exact Nat.min_le_right _ _
theorem Jd (v:Int) (n d:Nat):(if v<0 then max (v+(n:Int)) 0 else min v (n:Int))=((eM n d (some v):Nat):Int):=by
 show(if v<0 then max (v+(n:Int)) 0 else min v (n:Int))=(((if v<0 then (v+(n:Int)).toNat else min v.toNat n):Nat):Int)
 by_cases q:v<0
 ·simp only [if_pos q];omega
 ·simp only [if_neg q];omega
theorem GQ (lo hi:Option Int) (n:Nat):aeI lo hi 1 (n:Int)=(((eM n 0 lo:Nat):Int),((eM n n hi:Nat):Int)):=by
 have h1:¬ ((1:Int)<0):=by omega
 unfold aeI
 simp only [h1,if_false]
 refine Prod.ext ?_ ?_
 ·cases lo with
  | none=>rfl
  | some v=>exact Jd v n 0
 ·cases hi with
  | none=>rfl
  | some v=>exact Jd v n n
theorem GR (i j:Nat):adP (i:Int) (j:Int) 1=j - i:=by
 unfold adP
 have h1:(1:Int) > 0:=by omega
 simp only [h1,if_true,Int.ediv_one]
 split <;> omega
theorem vS {v:aae} {o:Option Int} {Q:Option Int->aah->Prop} (p:IsPart v o) (h:Q o s):aby (model prog w) A (Builtin.Slice.slicePartIndex v) Q E s:=by
 cases p with
 | none=>exact slicePart_none h
 | int i t=>exact slicePart_int h
theorem jJ {sl:aay} {vl vu:aae} {lo hi:Option Int} {n:Nat} {Q:Int × Int × Nat->aah->Prop} (hs:s.heap.IsSliceOf sl vl vu .none) (pl:IsPart vl lo) (q:IsPart vu hi)
  (h:Q (((eM n 0 lo:Nat):Int),1,eM n n hi - eM n 0 lo) s):aby (model prog w) A (agD (.ref sl) (pure (n:Int))) Q E s:=by
 obtain⟨os,PR,Zb,Wh⟩:=id hs
 unfold agD Builtin.Slice.sliceFields
 refine aac (aac (wpAny_field PR Wh (x:=vl) rfl (aac (wpAny_field PR Wh (x:=vu) rfl (aac (wpAny_field PR Wh (x:=.none) rfl (aav ?_)))))))
 refine aac (slicePart_none ?_)
 show aby _ _ (if ((1:Int) == 0)=true then _ else _) _ _ s
 rw [if_neg (by decide)]
 refine aac (vS pl (aac (vS q (aac (aav ?_)))))
 show aby _ _ (match aeI lo hi 1 (n:Int) with|(lo,hi)=>pure (lo,(1:Int),adP lo hi 1)) _ _ s
 rw [GQ lo hi n]
 show aby _ _ (pure (((eM n 0 lo:Nat):Int),(1:Int),adP ((eM n 0 lo:Nat):Int) ((eM n n hi:Nat):Int) 1)) _ _ s
 rw [GR]
 exact aav h
theorem MQ (xs:Array aae) (i k:Nat):((acr k).filterMap fun(m:Nat)=>xs[((i:Int)+(m:Int) * 1).toNat]?).toArray=((xs.toList.drop i).take k).toArray:=by
 have e:(fun(m:Nat)=>xs[((i:Int)+(m:Int) * 1).toNat]?)=fun m=>xs[i+m]?:=by
  funext m
  have:((i:Int)+(m:Int) * 1).toNat=i+m:=by omega
  rw [this]
 rw [e]
 have:=pick_run xs i k
 rw [List.filterMap_map] at this
 have q:((fun x=>xs[x]?) ∘ fun x=>i+x)=fun m=>xs[i+m]?:=rfl
 rw [q] at this
 rw [this]
theorem qi {t sl:aay} {items:Array aae} {vl vu:aae} {lo hi:Option Int} {Q:aae->aah->Prop} (z:IsTup s.heap t items) (hs:s.heap.IsSliceOf sl vl vu .none) (pl:IsPart vl lo) (F:IsPart vu hi)
  (B:¬ (eM items.size 0 lo=0/\eM items.size items.size hi=items.size))
  (h:Q (.ref s.heap.objs.size) { s with heap:=s.heap.push { cls:=.type "tuple",data:=.seq ((items.toList.drop (eM items.size 0 lo)).take (eM items.size items.size hi - eM items.size 0 lo)).toArray } })
  (hsz:items.size<=aaj):aby (model prog w) A (getItem (.ref t) (.ref sl)) Q E s:=by
 have Je:sizeOk (.seq ((items.toList.drop (eM items.size 0 lo)).take (eM items.size items.size hi - eM items.size 0 lo)).toArray):=by
  show((items.toList.drop (eM items.size 0 lo)).take (eM items.size items.size hi - eM items.size 0 lo)).toArray.size<=aaj
  rw [aaB,aat,abO,adF]
  omega
 have G:eM items.size items.size hi<=items.size:=Tf _ _ (aar _) hi
 obtain⟨os,PR,Zb,Wh⟩:=id hs
 have Zc:s.TypeIs (.ref sl) "slice":=⟨os,PR,Zb⟩
 unfold getItem
 try with_reducible refine wpAny_holding ?_
 first|refine aac (aav ?_)|skip
 refine aac (wpAny_sequenceKey z.typeIs (by decide) ?_)
 refine aac (wpAny_callSpecial?_slot (name:=aad "__getitem__") z.typeIs ab7
  (wpAny_call_entry ab7 z.typeIs entry_tuple_getitem ?_ (args_tuple_getitem _ _)))
 show aby _ _ (agE (.ref t) >>= _) _ _ s
 refine aac (tupleItemsOf_ z ?_)
 refine aac (wpAny_typeOf Zc ?_)
 rw [if_pos (by decide)]
 refine aac (jJ hs pl F ?_)
 have Ml:¬ ((((eM items.size 0 lo:Nat):Int) == 0 && (1:Int) == 1 && (eM items.size items.size hi - eM items.size 0 lo) == items.size)=true):=by
  intro q
  rw [abg,abg] at q
  have q1:((eM items.size 0 lo:Nat):Int)=0:=eq_of_beq q.1.1
  have q2:eM items.size items.size hi - eM items.size 0 lo=items.size:=eq_of_beq q.2
  exact B ⟨by omega,by omega⟩
 show aby _ _ (if (((eM items.size 0 lo:Nat):Int) == 0 && (1:Int) == 1 && (eM items.size items.size hi - eM items.size 0 lo) == items.size)=true then _ else _) _ _ s
 rw [if_neg Ml,MQ]
 first
  | exact aac (m:=adR _) (wpAny_newObj_type (aav ⟨_,rfl,aav h⟩) Je)
  | exact aac (m:=adR _) (wpAny_newObj_type (aac (aav (aav ⟨_,rfl,aav h⟩))) Je)
  | exact aac (aac (m:=adR _) (wpAny_newObj_type (aav (aav ⟨_,rfl,aav h⟩)) Je))
  | exact aac (aac (m:=adR _) (wpAny_newObj_type (aav ⟨_,rfl,aav h⟩) Je))
end
end HT
namespace L2
open PySem PySem.Spec PyProof.Rows
abbrev TO:=St->Hp->(Option Int->Hp->Prop)->Prop
def PO (X:Cx) (e:Option Expr) (t:TO):Prop :=
 ∀(pins:List (aay × Obj)) (s:aah) (σ:St) (H:Hp) (Q:Option Int->Hp->Prop),Inv X pins σ H s->t σ H Q ->
  aby (model X.prog X.w) X.A (evalPart e X.env) (fun u s'=>∃o H',Inv X pins σ H' s'/\IsPart u o/\Q o H') X.xe s
def PU:TO:=fun _ H Q=>Q none H
def Wi (t:TE):TO:=fun σ H Q=>t σ H fun x H1=>∃i,x=.int i/\Q (some i) H1
section
variable {X:Cx} {e:Expr} {te:TE} {lo hi:Option Expr} {tl th:TO} {pos p2:Pos}
theorem di:PO X none PU:=by
 intro pins s σ H Q I h
 rw [evalPart_none]
 exact aav ⟨none,H,I,.none,h⟩
theorem bB (h:PE X e te):PO X (some e) (Wi te):=by
 intro pins s σ H Q I z
 rw [evalPart_some]
 refine thn (h pins s σ H _ I z) fun u s1 Zq=>?_
 obtain⟨x,H1,I1,B,q1⟩:=Zq
 obtain⟨i,rfl,q⟩:=q1
 obtain⟨t,rfl⟩:=B
 exact⟨some i,H1,I1,.int i t,q⟩
def Wj (X:Cx) (r:V->Option Int->Option Int->Hp->VK->Prop):Prop :=
 ∀(pins:List (aay × Obj)) (s:aah) (σ:St) (H:Hp) (x:V) (v vl vu:aae) (lo hi:Option Int) (sl:aay) (Q:VK),Inv X pins σ H s->RelV x v->s.heap.IsSliceOf sl vl vu .none->IsPart vl lo->IsPart vu hi->r x lo hi H Q ->
  ∃T id,typeLookup (.type T) "__getitem__"=pure (some (.builtin id))/\s.TypeIs v T/\aby (model X.prog X.w) X.A (getItem v (.ref sl)) (EP X pins σ Q) X.xe s
def tSl (r:V->Option Int->Option Int->Hp->VK->Prop) (te:TE) (tl th:TO):TE:=fun σ H Q=>te σ H fun x H1=>tl σ H1 fun l U=>th σ U fun u H3=>r x l u H3 Q
theorem bI {r:V->Option Int->Option Int->Hp->VK->Prop} (hr:Wj X r) (B:PE X e te) (hl:PO X lo tl) (J:PO X hi th):PE X (.Subscript e (.Slice lo hi none p2) pos) (tSl r te tl th):=by
 intro pins s σ H Q I h
 refine Subscript_ (thn (B pins s σ H _ I h) fun v s1 Zq=>?_)
 obtain⟨x,H1,I1,O,q1⟩:=Zq
 refine wpAny_Slice (thn (hl pins s1 σ H1 _ I1 q1) fun vl s2 ⟨l,U,I2,pl,q2⟩=>thn (J pins s2 σ U _ I2 q2) fun vu s3 Zq=>?_)
 obtain⟨u,H3,I3,L,q3⟩:=Zq
 rw [evalPart_none]
 refine aav ?_
 have I4:Inv X pins σ H3 { s3 with heap:=s3.heap.push { cls:=.type "slice",data:=.fields #[vl,vu,.none] } }:=I3.kept (t':=s3.toks) fun b ob q=>aag _ q
 obtain⟨T,id,z,G,F⟩:=hr pins { s3 with heap:=s3.heap.push { cls:=.type "slice",data:=.fields #[vl,vu,.none] } } σ H3 x v vl vu l u s3.heap.objs.size Q I4 O (Heap.IsSliceOf.new ..) pl L q3
 show aby (model X.prog X.w) X.A (subscriptTail e (.Slice lo hi none p2) v (.ref s3.heap.objs.size)) (EP X pins σ Q) X.xe { s3 with heap:=s3.heap.push { cls:=.type "slice",data:=.fields #[vl,vu,.none] } }
 exact tail_any (ops:=[.ref s3.heap.objs.size,v]) G z F (by with_unfolding_all rfl)
noncomputable def fI (xs:List V) (lo hi:Option Int):List V:=(xs.drop (HT.eM xs.length 0 lo)).take (HT.eM xs.length xs.length hi - HT.eM xs.length 0 lo)
theorem t7 (xs:List V) (lo hi:Option Int):(fI xs lo hi).length<=xs.length:=by
 unfold fI
 rw [aat,abO]
 omega
def aa9 (K:aaa):V->Option Int->Option Int->Hp->VK->Prop:=fun x lo hi H Q=>∃a xs,x=.ref a/\bH K H a xs /\
 ¬ (HT.eM xs.length 0 lo=0/\HT.eM xs.length xs.length hi=xs.length)/\∀p,H p=none->Q (.ref p) (upd H p (.tup (fI xs lo hi)))
theorem Tg:Wj X (aa9 X.K):=by
 intro pins s σ H x v vl vu lo hi sl Q I rx hs pl G h
 obtain⟨a,xs,rfl,F,B,q⟩:=h
 cases rx
 obtain⟨its,r,z,hz⟩:=I.tuple F
 have hlen:its.toArray.size=xs.length:=by rw [aaB];exact r.length.symm
 refine⟨"tuple",_,ab7.lookup,z.typeIs,?_⟩
 refine HT.qi z hs pl G (by rw [hlen];exact B) ?_ (by rw [hlen];exact hz)
 rw [hlen]
 refine⟨.ref s.heap.objs.size,_,I.laid (t':=s.toks) (o:=.tup (fI xs lo hi)) (fun b ob q=>aag _ q) (aar _) ?_,rfl,q _ (I.hok.fresh (aar _))⟩
 exact⟨ab0 (t7 xs lo hi) hz,_,(r.drop (HT.eM xs.length 0 lo)).take (HT.eM xs.length xs.length hi - HT.eM xs.length 0 lo),ah5 _ _⟩
def Wk (K:aaa):R2:=fun x y H Q=>∃a b xs ys,x=.ref a/\y=.ref b/\bH K H a xs/\bH K H b ys/\xs≠[]/\xs.length+ys.length<=aaj /\
 (ys=[]->Q (.ref a) H)/\(ys≠[]->∀p,H p=none->Q (.ref p) (upd H p (.tup (xs++ys))))
theorem Vals.vq {xs:List V} {us:List aae} (r:Vals xs us):us=[]↔xs=[]:=by
 cases r with
 | nil=>simp
 | cons _ _=>simp
theorem PV:qc X (binaryOp .Add) (Wk X.K):=by
 intro pins s σ H x y v u Q I rx ry h
 obtain⟨a,b,xs,ys,rfl,rfl,ha,F,G,hz,q1,q2⟩:=h
 cases rx
 cases ry
 obtain⟨its,B,p1,_⟩:=I.tuple ha
 obtain⟨dF,r2,p2,_⟩:=I.tuple F
 refine HT.PQ p1 p2 (fun z=>G (B.vq.mp z)) (fun z=>⟨.ref a,H,I,rfl,q1 (r2.vq.mp z)⟩) (fun z=>?_) (by rw [<- B.length,<- r2.length];exact hz)
 refine⟨.ref s.heap.objs.size,_,I.laid (t':=s.toks) (o:=.tup (xs++ys)) (fun b ob q=>aag _ q) (aar _) ?_,rfl,q2 (fun w=>z (r2.vq.mpr w)) _ (I.hok.fresh (aar _))⟩
 exact⟨by rw [aab];exact hz,_,B.append r2,ah5 _ _⟩
end
noncomputable def RZ (n:Nat) (i:Int):Option Nat:=if 0<=i then (if i<n then some i.toNat else none) else if -(n:Int)<=i then some (i+n).toNat else none
noncomputable def r6 {α:Type} (xs:List α) (i:Int):Option α:=(RZ xs.length i).bind fun j=>xs[j]?
theorem PX {n:Nat} {i:Int} {j:Nat} (h:RZ n i=some j):seqIndex? i n=some j/\j<n/\-(n:Int)<=i/\i<n:=by
 unfold RZ at h
 by_cases h0:0<=i
 ·rw [if_pos h0] at h
  by_cases h1:i<n
  ·rw [if_pos h1] at h
   have e:i.toNat=j:=abA h
   exact⟨by rw [seqIndex_of h0 h1,e],by omega,by omega,h1⟩
  ·rw [if_neg h1] at h;cases h
 ·rw [if_neg h0] at h
  by_cases h1:-(n:Int)<=i
  ·rw [if_pos h1] at h
   have e:(i+n).toNat=j:=abA h
   exact⟨by rw [seqIndex_neg (by omega) h1,e],by omega,h1,by omega⟩
  ·rw [if_neg h1] at h;cases h
theorem BW {α:Type} {xs:List α} {i:Int} {v:α} (h:r6 xs i=some v):∃j,seqIndex? i xs.length=some j/\xs[j]?=some v/\j<xs.length/\-(xs.length:Int)<=i/\i<xs.length:=by
 unfold r6 at h
 cases e:RZ xs.length i with
 | none=>rw [e] at h;cases h
 | some j =>
  rw [e] at h
  obtain⟨h1,h2,q,z⟩:=PX e
  exact⟨j,h1,h,h2,q,z⟩
theorem bE {α:Type} {xs:List α} {j:Nat} {v:α} (h:xs[j]?=some v):r6 xs (j:Int)=some v:=by
 have q:j<xs.length:=(aaf.mp h).1
 have e:RZ xs.length (j:Int)=some j:=by
  unfold RZ
  rw [if_pos (by omega),if_pos (by omega)];simp
 unfold r6;rw [e];exact h
def PY (b:Expr):Prop:=∀o i,subscripted b false o i=operate [o,i] (getItem o i)
def Zd (X:Cx) (r:R2):Prop :=
 ∀(b9 slice:Expr) (pins:List (aay × Obj)) (s:aah) (σ:St) (H:Hp) (x y:V) (v u:aae) (Q:VK),Inv X pins σ H s->RelV x v->RelV y u->r x y H Q ->
  subscripted slice false v u=operate [v,u] (getItem v u)->aby (model X.prog X.w) X.A (subscriptTail b9 slice v u) (EP X pins σ Q) X.xe s
def PZ (X:Cx) (id:String) (r:V->List V->Hp->VK->Prop):Prop :=
 ∀(pins:List (aay × Obj)) (s:aah) (σ:St) (H:Hp) (x:V) (xs:List V) (v:aae) (us:List aae) (Q:VK),Inv X pins σ H s->RelV x v->Vals xs us->r x xs H Q ->
  aby (model X.prog X.w) X.A (call (.builtin id) (v::us)) (EP X pins σ Q) X.xe s
section
variable {X:Cx} {a b:Expr} {ta tb:TE} {pos:Pos}
theorem aq {r:R2} (hr:Zd X r) (ha:PE X a ta) (z:PE X b tb) (hs:PY b):PE X (.Subscript a b pos) (S8 r ta tb):=by
 intro pins s σ H Q I h
 exact Subscript_ (S9 ha z I h fun v u s2 x y U I2 rx ry q=>hr a b pins s2 σ U x y v u Q I2 rx ry q (hs _ _))
def P0 (K:aaa):R2:=fun x y H Q=>∃p xs i v,x=.ref p/\y=.int i/\aC K H p xs/\r6 xs i=some v/\Q v H
def gh (K:aaa):R2:=fun x y H Q=>∃p xs i v,x=.ref p/\y=.int i/\bH K H p xs/\r6 xs i=some v/\Q v H
def aba:R2:=fun x y H Q=>∃z i c,x=.str z/\y=.int i/\z.length<=aaj/\r6 z.cps.toList i=some c/\Q (.str ⟨#[c]⟩) H
theorem aw:Zd X (P0 X.K):=by
 intro b9 slice pins s σ H x y v u Q I rx ry h hs
 obtain⟨p,xs,i,z,rfl,rfl,O,L,q⟩:=h
 cases rx
 obtain⟨t,rfl⟩:=ry
 obtain⟨its,r,pl,hz⟩:=I.list O
 obtain⟨j,h1,h2,V,G,J⟩:=BW L
 obtain⟨w,F,GS⟩:=r.get h2
 have hl:=r.length
 have hn:=vP
 have fin:EP X pins σ Q w s:=⟨z,H,I,GS,q⟩
 by_cases h0:0<=i
 ·have B:i.toNat=j:=by
   rw [seqIndex_of h0 J] at h1
   exact abA h1
  exact item_listR pl.isList h0 (by omega) (by rw [B];simpa using F) fin hs
 ·have B:(i+(its.toArray.size:Int)).toNat=j:=by
   rw [seqIndex_neg (by omega) G] at h1
   rw [aaB,<- hl]
   exact abA h1
  exact subscriptTail_builtinR (x:=w) pl.isList.typeIs slot_list_getitem.lookup
   (wpAny_getItem_list_neg (Q:=fun r s'=>r=w/\EP X pins σ Q r s') pl.isList (by omega) (by rw [aaB] <;> omega) (by omega) (by rw [B];simpa using F) ⟨rfl,fin⟩) hs
theorem ax:Zd X (gh X.K):=by
 intro b9 slice pins s σ H x y v u Q I rx ry h hs
 obtain⟨p,xs,i,z,rfl,rfl,G,F,q⟩:=h
 cases rx
 obtain⟨t,rfl⟩:=ry
 obtain⟨its,r,pl,hz⟩:=I.tuple G
 obtain⟨j,h1,h2,J,L,O⟩:=BW F
 obtain⟨w,B,GS⟩:=r.get h2
 have hl:=r.length
 have hn:=vP
 have fin:EP X pins σ Q w s:=⟨z,H,I,GS,q⟩
 exact subscriptTail_builtinR (x:=w) pl.typeIs slot_tuple_getitem.lookup
  (getItem_tuple (j:=j) (Q:=fun r s'=>r=w/\EP X pins σ Q r s') pl (by omega) (by omega) (by rw [aaB,<- hl];exact h1) (by simpa using B) ⟨rfl,fin⟩) hs
theorem j7:Zd X aba:=by
 intro b9 slice pins s σ H x y v u Q I rx ry h hs
 obtain⟨z,i,c,rfl,rfl,hz,L,q⟩:=h
 obtain⟨t,rfl⟩:=rx
 obtain⟨t',rfl⟩:=ry
 obtain⟨j,h1,h2,O,G,J⟩:=BW L
 have hl:z.cps.toList.length=z.length:=by simp [Str.length]
 rw [hl] at h1 G J
 have hn:=vP
 exact tail_any (typeIs_str s z t) slot_str_getitem.lookup (getItem_str (c:=c) (by
  have B:decide (i < -(2 ^ 63:Int))=false:=decide_eq_false (by omega)
  have F:decide (i≥2 ^ 63)=false:=decide_eq_false (by omega)
  rw [B,F,Bool.or_false]) (by rw [h1];simpa using h2) ⟨.str ⟨#[c]⟩,H,I.tok _,⟨_,rfl⟩,q⟩) hs
theorem BX (lo hi:Option Int) (n:Nat):(sliceBounds lo hi none n).1=((HT.eM n 0 lo:Nat):Int)/\(sliceBounds lo hi none n).2.1=((HT.eM n n hi:Nat):Int)/\(sliceBounds lo hi none n).2.2=1:=by
 refine⟨?_,?_,rfl⟩
 ·cases lo with
  | none=>simp [sliceBounds,HT.eM]
  | some i =>
   simp only [sliceBounds,HT.eM,ahi,show(1:Int) > 0 by decide,if_true]
   by_cases h:i<0
   ·simp only [h,if_true] <;> omega
   ·simp only [h,if_false] <;> omega
 ·cases hi with
  | none=>simp [sliceBounds,HT.eM]
  | some i =>
   simp only [sliceBounds,HT.eM,ahi,show(1:Int) > 0 by decide,if_true]
   by_cases h:i<0
   ·simp only [h,if_true] <;> omega
   ·simp only [h,if_false] <;> omega
theorem yV (its:List aae) (lo hi:Option Int):slicePick its.toArray lo hi none=((its.drop (HT.eM its.length 0 lo)).take (HT.eM its.length its.length hi - HT.eM its.length 0 lo)).toArray:=by
 obtain⟨h1,h2,q⟩:=BX lo hi its.toArray.size
 unfold slicePick
 rw [h1,h2,q]
 simp only [sliceRange_one,pick_run,aaB] <;> rfl
def abb (K:aaa):V->Option Int->Option Int->Hp->VK->Prop:=fun x lo hi H Q=>∃a xs,x=.ref a/\aC K H a xs/\∀p,H p=none->Q (.ref p) (upd H p (.lst (fI xs lo hi)))
theorem cT:Wj X (abb X.K):=by
 intro pins s σ H x v vl vu lo hi sl Q I rx hs pl F h
 obtain⟨a,xs,rfl,B,q⟩:=h
 cases rx
 obtain⟨its,r,z,hz⟩:=I.list B
 have hlen:=r.length
 refine⟨"list",_,slot_list_getitem.lookup,z.isList.typeIs,?_⟩
 refine wpAny_getItem_list_slice z.isList hs pl F .none (by simp) ?_ (by rw [aaB] <;> omega)
 rw [yV,<- hlen]
 refine⟨.ref s.heap.objs.size,_,I.laid (t':=s.toks) (o:=.lst (fI xs lo hi)) (fun b ob q=>aag _ q) (aar _) ?_,rfl,q _ (I.hok.fresh (aar _))⟩
 exact⟨ab0 (t7 xs lo hi) hz,_,0,(r.drop (HT.eM xs.length 0 lo)).take (HT.eM xs.length xs.length hi - HT.eM xs.length 0 lo),aa0 _ rfl⟩
noncomputable def jK:V->Bool
 | .cg=>true
 | .bl _=>true
 | .int _=>true
 | .str _=>true
 | _=>false
noncomputable def Mm:V->V->Bool
 | .cg,.cg=>true
 | .bl a,.bl b=>a == b
 | .bl a,.int b=>(if a then 1 else 0) == b
 | .int a,.bl b=>a == (if b then 1 else 0)
 | .int a,.int b=>a == b
 | .str a,.str b=>a == b
 | _,_=>false
theorem Th {A:abP} {s:aah} {y x:V} {u v:aae} (ry:RelV y u) (rx:RelV x v) (fy:jK y=true) (fx:jK x=true):adS A s u v (Mm y x):=by
 cases y with
 | cg =>
  cases ry
  cases x with
  | cg=>cases rx;exact ahu _
  | bl b=>cases rx;exact ahF b
  | int b=>obtain⟨t,rfl⟩:=rx;exact ahR b t
  | str b=>obtain⟨t,rfl⟩:=rx;exact ahS b t
  | _=>exact absurd (show false=true from fx) aaZ
 | bl a =>
  cases ry
  cases x with
  | cg=>cases rx;exact ahG a
  | bl b=>cases rx;exact ahH a b
  | int b=>obtain⟨t,rfl⟩:=rx;exact ahT a b t
  | str b=>obtain⟨t,rfl⟩:=rx;exact ahU a b t
  | _=>exact absurd (show false=true from fx) aaZ
 | int a =>
  obtain⟨t',rfl⟩:=ry
  cases x with
  | cg=>cases rx;exact ahV a t'
  | bl b=>cases rx;exact ahW a t' b
  | int b=>obtain⟨t,rfl⟩:=rx;exact ah6 a t' b t
  | str b=>obtain⟨t,rfl⟩:=rx;exact agI a t' b t
  | _=>exact absurd (show false=true from fx) aaZ
 | str a =>
  obtain⟨t',rfl⟩:=ry
  cases x with
  | cg=>cases rx;exact ahX a t'
  | bl b=>cases rx;exact ahY a t' b
  | int b=>obtain⟨t,rfl⟩:=rx;exact agJ a t' b t
  | str b=>obtain⟨t,rfl⟩:=rx;exact ah7 a t' b t
  | _=>exact absurd (show false=true from fx) aaZ
 | _=>exact absurd (show false=true from fy) aaZ
noncomputable def Gw (x:V) (u:aae):Bool:=match u with
 | .none=>Mm .cg x
 | .bool b=>Mm (.bl b) x
 | .int i _=>Mm (.int i) x
 | .str z _=>Mm (.str z) x
 | _=>false
theorem BY {x y:V} {u:aae} (r:RelV y u) (f:jK y=true):Gw x u=Mm y x:=by
 cases y with
 | cg=>cases r;rfl
 | bl b=>cases r;rfl
 | int i=>obtain⟨t,rfl⟩:=r;rfl
 | str z=>obtain⟨t,rfl⟩:=r;rfl
 | _=>exact absurd (show false=true from f) aaZ
theorem qj {x:V}:∀{xs:List V} {us:List aae},Vals xs us->xs.all jK=true->us.any (Gw x)=xs.any fun y=>Mm y x
 | _,_,.nil,_=>rfl
 | y::xs,u::us,.cons r t,f=>by
  rw [ab6,abg] at f
  rw [aeu,aeu,BY r f.1,qj t f.2]
theorem jL {A:abP} {s:aah} {x:V} {v:aae} (rx:RelV x v) (fx:jK x=true):∀{xs:List V} {us:List aae},Vals xs us->xs.all jK=true->∀u∈us,adS A s u v (Gw x u)
 | _,_,.nil,_=>fun u q=>by cases q
 | y::xs,u::us,.cons r t,f=>fun z q=>by
  rw [ab6,abg] at f
  rcases aaK.mp q with rfl|q
  ·rw [BY r f.1];exact Th r rx f.1 fx
  ·exact jL rx fx t f.2 z q
noncomputable def Pl (x:V) (xs:List V):Bool:=xs.any fun y=>Mm y x
def rIn (K:aaa) (neg:Bool):R2:=fun x y H Q=>∃p xs,y=.ref p/\(aC K H p xs\/bH K H p xs)/\jK x=true/\xs.all jK=true/\Q (.bl (if neg then !Pl x xs else Pl x xs)) H
theorem ix:qc X (compareOp .In) (rIn X.K false):=by
 intro pins s σ H x y v u Q I rx ry h
 obtain⟨p,xs,rfl,z,fx,fs,q⟩:=h
 cases ry
 rcases z with z|z
 ·obtain⟨its,r,pl,hz⟩:=I.list z
  refine SeqAt.in_listAt (Gw x) pl.isList (fun w B=>jL rx fx r fs w (by simpa using B)) ⟨.bl _,H,I,rfl,?_⟩
  rw [show its.toArray.any (Gw x)=its.any (Gw x) by simp,qj r fs]
  exact q
 ·obtain⟨its,r,pl,hz⟩:=I.tuple z
  refine SeqAt.in_tupleAt (Gw x) pl (fun w B=>jL rx fx r fs w (by simpa using B)) ⟨.bl _,H,I,rfl,?_⟩
  rw [show its.toArray.any (Gw x)=its.any (Gw x) by simp,qj r fs]
  exact q
theorem cX:qc X (compareOp .NotIn) (rIn X.K true):=by
 intro pins s σ H x y v u Q I rx ry h
 obtain⟨p,xs,rfl,z,fx,fs,q⟩:=h
 cases ry
 rcases z with z|z
 ·obtain⟨its,r,pl,hz⟩:=I.list z
  refine ah8 (Gw x) pl.isList (fun w B=>jL rx fx r fs w (by simpa using B)) ⟨.bl _,H,I,rfl,?_⟩
  rw [show its.toArray.any (Gw x)=its.any (Gw x) by simp,qj r fs]
  exact q
 ·obtain⟨its,r,pl,hz⟩:=I.tuple z
  refine ahZ (Gw x) pl (fun w B=>jL rx fx r fs w (by simpa using B)) ⟨.bl _,H,I,rfl,?_⟩
  rw [show its.toArray.any (Gw x)=its.any (Gw x) by simp,qj r fs]
  exact q
theorem aH:fD X (.builtin "len") (fun xs H Q=>∃p ys,xs=[.ref p]/\(aC X.K H p ys\/bH X.K H p ys)/\Q (.int ys.length) H):=by
 intro pins s σ H xs us Q I r h
 obtain⟨p,ys,rfl,z,q⟩:=h
 obtain⟨u,rfl,rx⟩:=vals1 r
 cases rx
 have hn:=vP
 rcases z with z|z
 ·obtain⟨its,B,pl,hz⟩:=I.list z
  have hlen:=B.length
  exact Calls.call_len_list pl.isList (by simp only [aaB] <;> omega) ⟨.int ys.length,H,I.tok _,⟨s.toks+1,by rw [aaB,hlen]⟩,q⟩
 ·obtain⟨its,B,pl,hz⟩:=I.tuple z
  have hlen:=B.length
  exact len_tuple pl (by simp only [aaB] <;> omega) ⟨.int ys.length,H,I.tok _,⟨s.toks+1,by rw [aaB,hlen]⟩,q⟩
theorem j8:fD X (.builtin "len") (fun xs H Q=>∃z,xs=[.str z]/\z.length<=aaj/\Q (.int z.length) H):=by
 intro pins s σ H xs us Q I r h
 obtain⟨z,rfl,hz,q⟩:=h
 obtain⟨u,rfl,t,rfl⟩:=vals1 r
 have hn:=vP
 exact len_str (by omega) ⟨.int z.length,H,I.tok _,⟨_,rfl⟩,q⟩
theorem BZ:fD X (.type "list") (fun xs H Q=>∃p ys,xs=[.ref p]/\(aC X.K H p ys\/bH X.K H p ys)/\∀l,H l=none->Q (.ref l) (upd H l (.lst ys))):=by
 intro pins s σ H xs us Q I r h
 obtain⟨p,ys,rfl,F,q⟩:=h
 obtain⟨u,rfl,rx⟩:=vals1 r
 cases rx
 have fin:∀(its:List aae),Vals ys its->ys.length<=aaj->∀(h':Heap) (z:Nat),(∀b o',s.heap.get? b=some o'->h'.get? b=some o') ->
   h'.get? s.heap.objs.size=some { cls:=.type "list",dict:=none,data:=.seq its.toArray z,slots:=#[] }->EP X pins σ Q (.ref s.heap.objs.size) { s with heap:=h' }:=fun its B hz h' z kp e =>
  ⟨.ref s.heap.objs.size,_,I.laid (t':=s.toks) kp (aar _) (show cL X.prog X.w _ h' _ (.lst ys) from⟨hz,its,z,B,e⟩),rfl,q _ (I.hok.fresh (aar _))⟩
 rcases F with F|F
 ·obtain⟨its,B,pl,hz⟩:=I.list F
  have hlen:=B.length
  obtain⟨o,J,G,n,hd⟩:=pl.isList
  exact call_list_seq p (.inl rfl) J G hd (fun h' z kp e=>fin its B hz h' z kp e) (by simp only [aaB] <;> omega)
 ·obtain⟨its,B,pl,hz⟩:=I.tuple F
  have hlen:=B.length
  obtain⟨o,J,G,n,hd⟩:=pl
  exact call_list_seq p (.inr rfl) J G hd (fun h' z kp e=>fin its B hz h' z kp e) (by simp only [aaB] <;> omega)
theorem gz:fD X (.type "tuple") (fun xs H Q=>∃p ys,xs=[.ref p]/\((aC X.K H p ys/\∀l,H l=none->Q (.ref l) (upd H l (.tup ys)))\/(bH X.K H p ys/\Q (.ref p) H))):=by
 intro pins s σ H xs us Q I r h
 obtain⟨p,ys,rfl,h⟩:=h
 obtain⟨u,rfl,rx⟩:=vals1 r
 cases rx
 rcases h with⟨z,q⟩|⟨z,q⟩
 ·obtain⟨its,B,pl,hz⟩:=I.list z
  have hlen:=B.length
  refine call_tuple_list pl.isList (fun h' kp=>?_) (by simp only [aaB] <;> omega)
  have I1:Inv X pins σ H { s with heap:=h' }:=I.kept (t':=s.toks) kp
  have I2:Inv X pins σ (upd H h'.objs.size (.tup ys)) { s with heap:=h'.push { cls:=.type "tuple",data:=.seq its.toArray } } :=
   I1.laid (t':=s.toks) (fun b o e=>aag _ e) (aar _) (show cL X.prog X.w _ _ _ (.tup ys) from⟨hz,its,B,ah5 _ _⟩)
  exact⟨.ref h'.objs.size,_,I2,rfl,q _ (I1.hok.fresh (aar _))⟩
 ·obtain⟨its,B,pl,hz⟩:=I.tuple z
  exact call_tuple_same pl ⟨.ref p,H,I,rfl,q⟩
def tyV (K:aaa) (T:String) (x:V) (H:Hp):Prop:=match x with
 | .str _=>T="str"
 | .int _=>T="int"
 | .ref p=>(T="list"/\∃xs,aC K H p xs)\/(T="tuple"/\∃o,K.lookup p=some o/\o.cls=.type "tuple"/\o.dict=none) \/
   (T="dict"/\((∃kvs,H p=some (.dK kvs))\/∃kvs,H p=some (.dT kvs)))\/(T="set"/\∃S n,H p=some (.set S n))
 | _=>False
theorem Ti {pins:List (aay × Obj)} {σ:St} {H:Hp} {s:aah} {T:String} {x:V} {v:aae} (I:Inv X pins σ H s) (r:RelV x v) (ty:tyV X.K T x H) :
  s.TypeIs v T/\∀a,v=.ref a->∃ob,s.heap.get? a=some ob/\ob.dict=none:=by
 cases x with
 | str z =>
  obtain⟨t,rfl⟩:=r
  cases (show T="str" from ty)
  exact⟨typeIs_str s z t,fun _ e=>nomatch e⟩
 | int i =>
  obtain⟨t,rfl⟩:=r
  cases (show T="int" from ty)
  exact⟨typeIs_int s i t,fun _ e=>nomatch e⟩
 | ref p =>
  cases r
  rcases ty with⟨rfl,xs,F⟩|⟨rfl,o,hk,B,hd⟩|⟨rfl,hk⟩|⟨rfl,S,n,hk⟩
  ·obtain⟨its,_,pl,_⟩:=I.list F
   refine⟨pl.isList.typeIs,fun a e=>?_⟩
   cases e
   obtain⟨o,n,e,c,hd,_⟩:=pl
   exact⟨o,e,hd⟩
  ·refine⟨⟨o,I.oE p o hk,B⟩,fun a e=>?_⟩
   cases e
   exact⟨o,I.oE _ o hk,hd⟩
  ·have z:∃o,s.heap.get? p=some o/\o.ExactDict:=by
    rcases hk with⟨kvs,hk⟩|⟨kvs,hk⟩
    ·obtain⟨_,_,_,_,o,_,_,e,ex,_⟩:=I.hok p _ hk
     exact⟨o,e,ex⟩
    ·obtain⟨_,_,_,_,o,_,_,e,ex,_⟩:=I.hok p _ hk
     exact⟨o,e,ex⟩
   obtain⟨o,e,ex⟩:=z
   refine⟨⟨o,e,ex.1⟩,fun a q=>?_⟩
   cases q
   exact⟨o,e,ex.2.1⟩
  ·obtain⟨o,_,_,_,e,ex,_⟩:=I.hok p _ hk
   refine⟨⟨o,e,ex.1⟩,fun a q=>?_⟩
   cases q
   exact⟨o,e,ex.2.1⟩
 | _=>exact ac8 ty
def tBM (K:aaa) (T:String) (r:V->List V->Hp->VK->Prop) (to:TE) (t:TA):TE:=fun σ H Q=>to σ H fun x H1=>tyV K T x H1/\t σ H1 fun xs U=>r x xs U Q
variable {o e:Expr} {es:List Expr} {to:TE} {t:TA} {name:Str} {apos cpos:Pos} {T id:String} {r:V->List V->Hp->VK->Prop}
theorem cU (F:PlainAttrs T) (slot:Slot T name id) (Eb:typeOf (.builtin id)=pure (.type "method_descriptor")) (hm:PZ X id r) (B:PE X o to) (ha:PA X (e::es) t)
  (MR:autoParam (attributeBase o name X.env (eval o X.env)=eval o X.env) z0._auto_1)
  (hfew:autoParam (((backTo cpos (starEach (e::es) X.env)).all (fun x=>!x.1) && (backToKw cpos (keywordEach [] X.env)).all (fun x=>x.1.isSome)
   && decide ((e::es).length+([]:List Keyword).length+(if ([]:List Keyword).isEmpty then 0 else 1)<30))=true) z0._auto_1)
  (MS:autoParam ((apos.endLine == cpos.line)=true) z0._auto_1) (hs:autoParam (starEach (e::es) X.env=(false,eval e X.env)::starEach es X.env) z0._auto_1) (GU:autoParam ((backTo cpos (starEach es X.env)).any (·.1)=false) z0._auto_1) :
  PE X (.Call (.Attribute o name apos) (e::es) [] cpos) (tBM X.K T r to t):=by
 intro pins s σ H Q I h
 refine wpAny_Call_method_late MR hfew MS rfl (thn (B pins s σ H _ I h) fun v s1 Zq=>?_)
 obtain⟨x,H1,I1,z,ty,q1⟩:=Zq
 obtain⟨h1,h2⟩:=Ti I1 z ty
 refine⟨T,id,F,slot,Eb,h1,h2,?_⟩
 have q:=ha cpos pins s1 σ H1 _ I1 q1
 rw [hs] at q ⊢
 refine agg (by show(false || (backTo cpos (starEach es X.env)).any (·.1))=false;rw [GU] <;> rfl) (aeC ?_)
 exact thn q fun us s2 ⟨vs,U,I2,r2,q2⟩=>hm pins s2 σ U x vs v us Q I2 z r2 q2
end
def MtM (X:Cx) (id:String) (r:V->List V->Hp->VK->Prop):Prop :=
 ∀(pins:List (aay × Obj)) (s:aah) (σ:St) (H:Hp) (x:V) (xs:List V) (v:aae) (us:List aae) (Q:VK),Inv X pins σ H s->RelV x v->Vals xs us->r x xs H Q ->
  aby (model X.prog X.w) X.A (call (.builtin id) (v::us)) (EP X pins σ Q) X.xe s
theorem Vals.one:∀{x:V} {us:List aae},Vals [x] us->∃u,us=[u]/\RelV x u
 | _,_,.cons r .nil=>⟨_,rfl,r⟩
section
variable {X:Cx} {pins:List (aay × Obj)} {σ:St} {H:Hp} {s:aah} {l b:aay} {xs ys zs:List V}
theorem Inv.Tj {its its':List aae} {n:Nat} {f:Array aae->Array aae} {t':Nat} (I:Inv X pins σ H s) (z:H l=some (.lst xs))
  (e:s.heap.get? l=some { cls:=.type "list",data:=.seq its.toArray n }) (F:f its.toArray=its'.toArray) (J:Vals ys its') (hz:ys.length<=aaj) :
  Inv X pins σ (upd H l (.lst ys)) { s with heap:=s.heap.update l (adf f),toks:=t' }:=by
 have q:=PySem.IsL.update e f
 rw [F] at q
 refine I.write (x:=l) (e:=l) (by rw [z];exact trivial) (.inl rfl) (fun L u B G=>(Heap.get?_update_other s.heap (adf f) (aea B)).trans G) ⟨_,q⟩ ?_
 exact⟨hz,its',_,J,q⟩
theorem Inv.abd {its:List aae} {t':Nat} (I:Inv X pins σ H s) (z:Vals ys its) (hz:ys.length<=aaj) :
  Inv X pins σ (upd H s.heap.objs.size (.lst ys)) { s with heap:=s.heap.push { cls:=.type "list",data:=.seq its.toArray },toks:=t' } :=
 I.laid (fun _ _ q=>aag _ q) (aar _) ⟨hz,its,0,z,aa0 _ rfl⟩
theorem Inv.fresh (I:Inv X pins σ H s):H s.heap.objs.size=none:=I.hok.fresh (aar _)
theorem Inv.Kq (I:Inv X pins σ H s) (q:H l=some (.lst xs)):xs.length<=aaj/\∃(its:List aae) (n:Nat),Vals xs its/\xs.length=its.length/\s.heap.get? l=some { cls:=.type "list",data:=.seq its.toArray n }:=by
 obtain⟨z,its,n,r,e⟩:=I.hok l _ q
 exact⟨z,its,n,r,r.length,e⟩
theorem Er {n:Nat} (h:n<=aaj):adt n=false:=by
 unfold adt
 exact decide_eq_false (by omega)
end
section
variable {X:Cx}
def P1:V->List V->Hp->VK->Prop:=fun x vs H Q=>∃l xs y,x=.ref l/\vs=[y]/\H l=some (.lst xs)/\xs.length<aaj/\Q .cg (upd H l (.lst (xs++[y])))
theorem bz:MtM X "list.append" P1:=by
 intro pins s σ H x vs v us Q I rx rv h
 obtain⟨l,xs,y,rfl,rfl,B,hz,q⟩:=h
 cases rx
 obtain⟨u,rfl,ru⟩:=rv.one
 obtain⟨z,its,n,r,hl,e⟩:=I.Kq B
 refine call_meets abm ⟨_,e,rfl⟩ F.entry_list_append (F.args_list_append_2 _ _) (PySem.list_append l its.toArray n u (by rw [aaB];omega)) ⟨e,?_⟩
 refine⟨.cg,_,I.Tj (its':=its++[u]) B e (by simp) (r.append (.cons ru .nil)) ?_,rfl,q⟩
 rw [aab,ado]
 omega
def P2:V->List V->Hp->VK->Prop:=fun x vs H Q=>∃l b xs zs,x=.ref l/\vs=[.ref b]/\H l=some (.lst xs)/\H b=some (.lst zs)/\xs.length+zs.length<=aaj/\Q .cg (upd H l (.lst (xs++zs)))
theorem Kr:MtM X "list.extend" P2:=by
 intro pins s σ H x vs v us Q I rx rv h
 obtain⟨l,b,xs,zs,rfl,rfl,B,G,hz,q⟩:=h
 cases rx
 obtain⟨u,rfl,ru⟩:=rv.one
 cases ru
 obtain⟨z,its,n,r,hl,e⟩:=I.Kq B
 obtain⟨J,dF,n2,r2,gW,F⟩:=I.Kq G
 have hsz:its.toArray.size+dF.toArray.size<=aaj:=by rw [aaB,aaB];omega
 have MT:¬ (!its.toArray.isEmpty && adt (its.toArray.size+dF.toArray.size))=true:=by
  rw [Er hsz,Bool.and_false]
  exact aaZ
 refine call_meets adA ⟨_,e,rfl⟩ ahk (ag9 _ _)
  (AutoSeq1.list_extend_list_list_0 l its.toArray n b dF.toArray n2 MT (by rw [aaB];omega) (by omega)) ⟨e,F,?_⟩
 refine⟨.cg,_,I.Tj (its':=its++dF) B e (by simp) (r.append r2) ?_,rfl,q⟩
 rw [aab]
 omega
def abe:R2:=fun x y H Q=>∃l b xs zs,x=.ref l/\y=.ref b/\H l=some (.lst xs)/\H b=some (.lst zs)/\xs.length+zs.length<=aaj/\∀p,H p=none->Q (.ref p) (upd H p (.lst (xs++zs)))
theorem cZ:qc X (binaryOp .Add) abe:=by
 intro pins s σ H x y v u Q I rx ry h
 obtain⟨l,b,xs,zs,rfl,rfl,J,G,hz,q⟩:=h
 cases rx
 cases ry
 obtain⟨z,its,n,r,hl,e⟩:=I.Kq J
 obtain⟨L,dF,n2,r2,gW,B⟩:=I.Kq G
 refine PySem.P.add_list e B ?_ (by rw [aaB,aaB];omega)
 have F:its.toArray++dF.toArray=(its++dF).toArray:=by simp
 rw [F]
 exact⟨.ref _,_,I.abd (t':=s.toks) (r.append r2) (by rw [aab];omega),rfl,q _ I.fresh⟩
end
section
variable {prog:abn} {w:abU} {A:abP} {E:aae->aah->Prop} {s:aah}
end
section
variable {X:Cx}
end
end L2
namespace Att
open PySem PySem.W PySem.Calls PyProof.Rows
theorem uU {P:Params} {h:Heap}:∀(ns:List Int) (vs:List aae),WellAll P h vs (ns.map WData.int)->IntsAre vs ns:=by
 intro ns
 induction ns with
 | nil =>
  intro vs w
  rw [adK] at w
  cases w
  exact .nil
 | cons n ns ih =>
  intro vs w
  rw [abw] at w
  cases w with
  | cons a b =>
   cases a
   exact .cons _ _ (ih _ b)
theorem Ks {l:OpenLaw} {n:Nat} (hn:l.most=some n) {P:Params} {h:Heap} {args:List WData} {vals:List aae}
  (hpre:l.row.toRowW.claim.pre args=true) (F:WellAll P h vals args) :
  ∃a vs ns,vals=[abF a]/\args=[WData.list (ns.map WData.int)]/\h.get? a=some { cls:=.type "list",data:=.seq vs.toArray }/\IntsAre vs ns/\ns.length<=n:=by
 have Tn:WShape.hasAll [] args [.list .int]=true:=(pre_splitW hpre).1
 have G:l.pre.holds [] { args:=args }=true:=(pre_splitW hpre).2
 obtain⟨d,r,rfl,h1,h2⟩:=hasAllW_cons Tn
 obtain rfl:=hasAllW_nil h2
 obtain⟨xs,rfl,J⟩:=hasW_list h1
 obtain⟨ns,rfl⟩:=items_int J
 have hlen:ns.length<=n:=by
  unfold OpenLaw.pre at G
  have z:(WTm.not (.lt (.lit (.int (n:Int))) (.len (.arg 0)))).holds [] { args:=[.list (ns.map .int)] }=true:=by
   have z:=(holds_andW G).1
   rw [hn] at z
   exact z
  have B:=condW_of z (w_not (w_lt w_lit (w_len_list (w_arg rfl))))
  rw [Lm9] at B
  refine Nat.le_of_not_lt fun q=>?_
  have O:(n:Int)<((ns.length:Nat):Int):=by omega
  first
   | (rw [decide_eq_true O] at B;exact absurd B (by decide))
   | (simp at B;omega)
 cases F with
 | cons V w2 =>
  cases w2
  cases V with
  | list L hall=>exact⟨_,_,ns,rfl,rfl,L,uU ns _ hall,hlen⟩
theorem Kt (l:OpenLaw) (args:List WData):l.row.toRowW.claim.post args (.bool true) args=true :=
 postW_of (r:=l.row.toRowW) (X:=(true == true))
  (show WShape.has [] (.bool true) .bool=true by first|rfl|decide|simp [WShape.has,WShape.arms,WShape.armsAll])
  (show(WTm.eq .res (.lit (.bool true))).value [] { args:=args,res:=some (.bool true),after:=args }=some (.bool (true == true)) from w_eq_bool (w_res rfl) w_lit) rfl
theorem Es {l:OpenLaw} {n:Nat} {q:abn} {loose:List Str} {XP:(Str->Option aae)->Heap->Prop} {YP:abU->Heap->Prop} {d:DefRec}
  (hn:l.most=some n) (Wl:d.params.defaults=[])
  (call:∀(w:abU) (s₀ s₁:aah) (mg mb:Str->Option aae) (fa:aay) (o:Obj) (pm cd doc:aae) (a:aay) (vs:List aae) (ns:List Int),
   Ground q loose [] XP w s₀ mg mb s₁.heap->YP w s₁.heap ->
   s₁.heap.get? fa=some o->o.data=.func (docDef d.name d.params d.body d.scope pm cd doc)->s₁.heap.CodeRec cd d.name->mg d.name=some (.ref fa) ->
   s₁.heap.get? a=some { cls:=.type "list",data:=.seq vs.toArray }->IntsAre vs ns->ns.length<=n->s₁.gens = #[] ->
   codeAny (model l.prog w) callerA (.call (.ref fa) ⟨[.ref a],[]⟩) (fun r s'=>r=.ok (.ret (.bool true))/\OldK s₁.heap s'.heap/\s'.os=s₁.os/\AllBare s'.gens) s₁) :
  WalkO q loose XP YP l.row.toRowW d [] (fun f vs=>PySem.call f vs):=by
 intro w s₀ s₁ mg mb G Y fa o pm cd doc dV kV ho hd z J B V args vals as hpre hlay a1 F Z
 obtain rfl:dV=.none:=Dflts.none J Wl
 obtain rfl:kV=.none:=Dflts.noKw J
 obtain⟨a,vs,ns,rfl,rfl,To,hints,hlen⟩:=Ks hn hpre F
 refine enter_call (codeAny_mono (call w s₀ s₁ mg mb fa o pm cd doc a vs ns G Y ho (fd_plain hd) z B To hints hlen V) fun r s' hq=>?_)
 obtain⟨rfl,h2,L,O⟩:=hq
 exact⟨.inl ⟨.bool true,.bool true,[],rfl,fun _=>rfl,.bool true,Kt l _,fun _=>⟨List.Pairwise.nil,fun _ hm=>(nomatch hm)⟩⟩,h2,L,O⟩
section
variable {prog:abn} {w:abU} {A:abP} {E:aae->aah->Prop} {s:aah} {K:Frag}
noncomputable def ledger (h:Heap) (L d:aay):List (aay × Obj):=(acr h.objs.size).filterMap fun a=>if a=L\/a=d then none else (h.get? a).map fun o=>(a,o)
end
end Att
namespace L2
open PySem PySem.Spec PyProof.Rows
theorem AO:∀{vs:List aae} {ns:List Int},IntsAre vs ns->Vals (ns.map V.int) vs
 | _,_,.nil=>.nil
 | _,_,.cons n t h=>.cons ⟨t,rfl⟩ (AO h)
def Tp (H:Hp):Prop:=∀b,H b=none\/∃o xs,H b=some (.jY o (.lst xs))
theorem MU {P:abn} {w:abU} {K:aaa} {mg mb:Str->Option aae} {CX:Kl} {k:Nat} {fa a:aay} {fd:abZ} {x:Str} {sp:Sp} {s₁:aah} {vs:List aae} {ns:List Int}
  (KX:K.In s₁.heap) (J:s₁.heap.Ns aa3 mg) (B:s₁.heap.Ns builtinsNs mb) (Z:∀x:Str,x≠"__name__"->mb x=bootBuiltins x) (abf:s₁.heap.NoLimit) (hg:s₁.gens = #[])
  (ha:s₁.heap.get? a=some { cls:=.type "list",data:=.seq vs.toArray }) (hi:IntsAre vs ns) (hl:ns.length<=aaj) (hr:dy k callerA)
  (F:∀base:Heap,K.In base->base.Ns aa3 mg->aX P w K mg base CX k fa fd [x] sp) (Wm:∀(s:aah) (u:aae),BindsTo s fd ⟨[u],[]⟩ [(x,u)])
  (Kn:∀H:Hp,Tp H->aC K H a (ns.map V.int)->sp [.ref a] H (fun v _=>v=.bl true) fun _ _ _=>False)
  (Y:∀H e s',CX [] H s₁ (fun _ _ _=>False) e s'->False) :
  codeAny (model P w) callerA (.call (.ref fa) ⟨[.ref a],[]⟩) (fun r s'=>r=.ok (.ret (.bool true))/\OldK s₁.heap s'.heap/\s'.os=s₁.os/\AllBare s'.gens) s₁:=by
 have rv:=AO hi
 have abh:=hi.length
 have core:∀H:Hp,Tp H->aC K H a (ns.map V.int)->mm P w H s₁.heap->(∀b,H b≠none->b=a)->(H a≠none->K.lookup a=none) ->
   codeAny (model P w) callerA (.call (.ref fa) ⟨[.ref a],[]⟩) (fun r s'=>r=.ok (.ret (.bool true))/\OldK s₁.heap s'.heap/\s'.os=s₁.os/\AllBare s'.gens) s₁:=by
  intro H hO hS hok hA hK
  have Jf:∀{b:aay} {o:Obj},s₁.heap.get? b=some o->H b=none->(BL s₁.heap H).get? b=some o:=fun e n=>My e n
  have Wf:∀{b:aay} {o:Obj} {es:Array DictEntry} {ep:Nat},s₁.heap.get? b=some o->o.data=.dict es ep->H b=none:=fun {b o es ep} e d=>by
   cases q:H b with
   | none=>rfl
   | some u =>
    have O:b=a:=hA b (by rw [q];simp)
    subst O
    rw [ha] at e;cases e
    have d':Data.seq vs.toArray _=Data.dict es ep:=d
    cases d'
  have Ze:∀{b:aay} {m:Str->Option aae},s₁.heap.Ns b m->(BL s₁.heap H).Ns b m:=fun {b m} ⟨o,es,ep,e,d,r⟩=>⟨o,es,ep,Jf e (Wf e d),d,r⟩
  have G:K.In (BL s₁.heap H):=fun b o e=>Jf (KX b o e) (by
   cases q:H b with
   | none=>rfl
   | some u =>
    have O:b=a:=hA b (by rw [q];simp)
    subst O
    rw [hK (by rw [q];simp)] at e;cases e)
  have hM:Mod K mg (BL s₁.heap H):=⟨G,Ze J,⟨mb,Ze B,Z⟩,let ⟨mc,h1,h2⟩:=abf;⟨mc,Ze h1,h2⟩⟩
  have e0:GO P w K mg (BL s₁.heap H) callerA [] s₁ H:=⟨rfl,hM,fun b o e=>Pw e,agO (J3 _ _),trivial,fun b B=>absurd (show b∈([]:List aay) from B) (by simp),hok,.of_eq hg⟩
  refine codeAny_mono ((F _ G (Ze J)).run callerA [] s₁ H ⟨[.ref a],[]⟩ [.ref a] [.ref a] _ _ hr e0 (Wm s₁ (.ref a)) (.cons rfl .nil) (Kn H hO hS)) fun r s' h=>?_
  cases r with
  | error e=>exact(Y H e s' h).elim
  | ok fl =>
   cases fl with
   | next=>exact ac8 h
   | brk=>exact ac8 h
   | cont=>exact ac8 h
   | ret u =>
    obtain⟨v,H',os,bare,un,Et,r',q⟩:=h
    have q':v=.bl true:=q
    subst q'
    obtain rfl:u=ae2 true:=r'
    refine⟨rfl,OldK.of_keep fun b o e=>?_,os,bare⟩
    cases q:H b with
    | none=>exact un.keep b o e q (by intro z;exact absurd (show b∈([]:List aay) from z) (by simp)) (by simp)
    | some u =>
     rcases hO b with z|⟨ob,xs,z⟩
     ·rw [q] at z;cases z
     ·have z2:=un.oz b ob _ z
      obtain⟨e1,_⟩:=hok b _ z
      obtain⟨e2,_⟩:=Et b _ z2
      rw [e] at e1;cases e1
      exact e2
 cases hk:K.lookup a with
 | some o =>
  have e:=KX a o hk
  rw [ha] at e
  cases e
  refine core (fun _=>none) (fun _=>.inl rfl) (.inr ⟨_,vs.toArray,_,hk,rfl,rfl,rfl,by rw [aaB,abh];exact hl,(by simp [V.pl]),(by simpa using rv)⟩) (fun b u z=>by have L:(none:Option HO)=some u:=z;cases L) (fun b z=>absurd rfl z) fun z=>absurd rfl z
 | none =>
  refine core (fun b=>if b=a then some (.jY { cls:=.type "list",data:=.seq vs.toArray } (.lst (ns.map V.int))) else none) (fun b=>?_) (.inl (.inr ⟨{ cls:=.type "list",data:=.seq vs.toArray },if_pos rfl⟩)) (fun b u z=>?_) (fun b z=>?_) fun _=>hk
  ·by_cases B:b=a
   ·exact .inr ⟨_,_,if_pos B⟩
   ·exact .inl (if_neg B)
  ·by_cases B:b=a
   ·have L:=(if_pos B).symm.trans z
    cases L
    subst B
    exact⟨ha,by rw [Lm9];exact hl,vs,_,rv,ha⟩
   ·have L:=(if_neg B).symm.trans z
    cases L
  ·by_cases B:b=a
   ·exact B
   ·exact absurd (if_neg B) z
noncomputable abbrev KOf {K:aaa} {h:Heap} (_:K.In h):aaa:=K
theorem P4 {l:ahv} {n k:Nat} {q:abn} {loose:List Str} {XP:(Str->Option aae)->Heap->Prop} {YP:abU->Heap->Prop} {d:DefRec} {K:Params->aaa} {CX:abU->Kl} {sp:abU->Sp} {x:Str}
  (hn:l.most=some n) (GI:n<=aaj) (Wl:d.params.defaults=[]) (hr:dy k callerA)
  (Z:∀(w:abU) (h:Heap),YP w h->(K w.params).In h)
  (F:∀(w:abU) (mg:Str->Option aae) (fa:aay) (h:Heap),(K w.params).In h->h.Ns aa3 mg->mg d.name=some (.ref fa) ->
   ∃fd:abZ,(∀(s:aah) (u:aae),BindsTo s fd ⟨[u],[]⟩ [(x,u)]) /\
    ∀base:Heap,(K w.params).In base->base.Ns aa3 mg->aX l.prog w (K w.params) mg base (CX w) k fa fd [x] (sp w))
  (Kn:∀(w:abU) (H:Hp) (a:aay) (ns:List Int),ns.length<=n->Tp H->aC (K w.params) H a (ns.map V.int)->sp w [.ref a] H (fun v _=>v=.bl true) fun _ _ _=>False)
  (z:∀(w:abU) (H:Hp) (s:aah) (e:aae) (s':aah),CX w [] H s (fun _ _ _=>False) e s'->False) :
  PySem.W.WalkO q loose XP YP l.row.toRowW d [] (fun f vs=>PySem.call f vs):=by
 refine Att.Es hn Wl fun w s₀ s₁ mg mb fa o pm cd doc a vs ns G Y ho hd a1 B To hints hlen hg=>?_
 have KX:=Z w _ Y
 obtain⟨fd,hb,J⟩:=F w mg fa _ KX G.T.g B
 exact MU KX G.T.g G.T.b G.T.builtins G.T.nolimit hg To hints (ab0 hlen GI) hr J hb (fun H L O=>Kn w H a ns hlen L O) fun H e s'=>z w H s₁ e s'
noncomputable def inClass (s:Stmt) (j:Nat):Stmt:=match s with
 | .ClassDef _ _ _ body _ _ _ _ _ _ _=>body.getD j (.Pass ⟨0,0,0,0⟩)
 | _=>.Pass ⟨0,0,0,0⟩
noncomputable def j9 (s:Stmt):Arguments:=match s with
 | .FunctionDef _ a _ _ _ _ _ _ _ _=>a
 | _=>{ posonlyargs:=[],args:=[],vararg:=none,kwonlyargs:=[],kw_defaults:=[],kwarg:=none,defaults:=[] }
noncomputable def ij (s:Stmt):List Stmt:=match s with
 | .FunctionDef _ _ b _ _ _ _ _ _ _=>b
 | _=>[]
noncomputable def au (s:Stmt):Scope:=match s with
 | .FunctionDef _ _ _ _ _ _ sc _ _ _=>sc
 | _=>{ kind:=.function,names:=[],isGenerator:=false,isCoroutine:=false }
abbrev dS:Kl:=fun _ _ _ _ _ _=>False
abbrev E0:XK:=fun _ _ _=>False
theorem Eu {X:Cx}:Passes dS X E0:=fun _ _ _ _ _ _ _ h=>h.elim
structure dz (K:aaa) (x qual:Str) (st:Stmt) (f:aay) (fd:abZ):Prop where
 ex:∃(oc:aae) (od:Option aay) (kV doc pm:aae) (an:Option aay) (cP ct:aae) (PN:Array (Option aae)),
  fd=ad3 x qual (j9 st) (ij st) (au st) .none kV doc pm an cP ct/\K.lookup f=some ⟨oc,od,.func fd,PN⟩/\agU K cP qual=true
 kp:adM K (.ref f)=true
section
variable {P:abn} {w:abU} {K:aaa} {mg:Str->Option aae} {base:Heap}
theorem dz.ok {x qual:Str} {st:Stmt} {f:aay} {fd:abZ} {N ps:List Str} {k:Nat} {sp:Sp} (F:dz K x qual st f fd) (S:aB N ps (au st)) (len:∀vs H Q E,sp vs H Q E->vs.length=ps.length)
  (Ep:∀(cP:aae) (A:abP) (outer:List Env) (s:aah) (H:Hp) (vs:List V) (Q:VK) (E:XK),dy k (A.deeper (envOfC qual (au st) s.heap.objs.size f cP))->sp vs H Q E ->
   ∃t,AG (GP dS P w K mg base N qual (au st) f cP A outer s H E).Y6 (ij st) t/\t { nx:=fun _ H'=>Q .cg H',rt:=Q } (start N vs) H):aX P w K mg base dS (k+1) f fd ps sp:=by
 obtain⟨oc,od,kV,doc,pm,an,cP,ct,PN,rfl,lk,z⟩:=F.ex
 refine RX lk z S len fun A outer s H vs Q E hr Kn=>?_
 obtain⟨t,h,q⟩:=Ep cP A outer s H vs Q E hr Kn
 exact⟨t,h.Y6,q⟩
theorem dz.binds {x qual:Str} {st:Stmt} {f:aay} {fd:abZ} {ps:List Str} (F:dz K x qual st f fd)
  (h:∀(kV doc pm:aae) (an:Option aay) (cP ct:aae) (us:List aae),us.length=ps.length->bindArgs (ad3 x qual (j9 st) (ij st) (au st) .none kV doc pm an cP ct) ⟨us,[]⟩=pure (ps.zip us)):Binds K fd ps []:=by
 obtain⟨oc,od,kV,doc,pm,an,cP,ct,PN,rfl,lk,q⟩:=F.ex
 exact .all (h kV doc pm an cP ct)
theorem GV {x qual:Str} {st:Stmt} {f:aay} {oc:aae} {od an:Option aay} {PN:Array (Option aae)} {kV doc pm cP ct:aae} (l:K.lookup f=some ⟨oc,od,.func (ad3 x qual (j9 st) (ij st) (au st) .none kV doc pm an cP ct),PN⟩)
  (c:agU K cP qual=true) (k:adM K (.ref f)=true):dz K x qual st f (ad3 x qual (j9 st) (ij st) (au st) .none kV doc pm an cP ct):=⟨⟨oc,od,kV,doc,pm,an,cP,ct,PN,rfl,l,c⟩,k⟩
end
theorem oG {A:abP} {k:Nat} (hr:dy k A):A.units+1<cLine:=Nat.lt_of_le_of_lt (Nat.add_le_add_left (by decide:1<=64) _) hr.units
section
variable {X:Cx}
theorem pv (i:Nat) {x:Str} {pos:Pos} (z:autoParam (X.N[i]?=some x) z0._auto_1) (B:Y1 X.env.scope x:=by first|exact abi rfl|exact ah9 (abi rfl)|exact ah9 (ah9 rfl)) (hd:autoParam ((x == ("__debug__":Str))=false) z1._auto_1)
  (q:autoParam ((x == ("__classdict__":Str))=false) z1._auto_1):PE X (.Name x pos) (Pz i):=S0 z B hd q
end
theorem bw {A B:Prop} (h:B):if false=true then A else B:=by
 rw [if_neg aaZ]
 exact h
theorem dP {A B:Prop} (h:A):if true=true then A else B:=by
 rw [if_pos rfl]
 exact h
theorem dQ {c A B:Prop} [Decidable c] (h1:c->A) (h2:¬ c->B):if c then A else B:=by
 by_cases h:c
 ·rw [if_pos h]
  exact h1 h
 ·rw [if_neg h]
  exact h2 h
def ah (H H':Hp):Prop:=∀b o,H b=some o->H' b=some o
theorem ah.refl (H:Hp):ah H H:=fun _ _ h=>h
theorem ah.trans {H H1 U:Hp} (a:ah H H1) (b:ah H1 U):ah H U:=fun c o h=>b c o (a c o h)
theorem ah.free {H H':Hp} (e:ah H H') {l:aay} (h:H' l=ahQ):H l=ahQ:=by
 cases q:H l with
 | none=>rfl
 | some o =>
  rw [e l o q] at h
  cases h
theorem ah.seq {K:aaa} {H H':Hp} {a:aay} {xs:List V} (e:ah H H') (h:aC K H a xs):aC K H' a xs:=by
 rcases h with(h|⟨o,h⟩)|h
 ·exact .inl (.inl (e _ _ h))
 ·exact .inl (.inr ⟨o,e _ _ h⟩)
 ·exact .inr h
noncomputable def ck (env:Env):List (Str × NameKind)->List (Str × aay)->List (Str × aay)
 | [],cs=>cs
 | (n,k)::r,cs=>if (k == adk)=true then ck env r ((n,(env.cells.lookup n).getD 0)::cs) else ck env r cs
theorem jl {env:Env}:∀(names:List (Str × NameKind)) (cs:List (Str × aay)),(∀y∈names,y.2=.free->(env.cells.lookup y.1).isSome=true) ->
  (forIn names cs (fun x (cs:List (Str × aay))=>(match x with|(name,kind)=>if (kind == adk)=true then (do let a <- cellOf env name;pure (aeo ((name,a)::cs))) else pure (aeo cs):Sem (ForInStep (List (Str × aay))))):Sem (List (Str × aay)))=pure (ck env names cs)
 | [],cs,_=>rfl
 | (n,k)::r,cs,h=>by
  have hr:∀y∈r,y.2=.free->(env.cells.lookup y.1).isSome=true:=fun y q=>h y (aam _ q)
  rw [af8]
  by_cases hk:(k == adk)=true
  ·have e:k=.free:=by simpa using hk
   have hs:=h (n,k) aas e
   obtain⟨a,ha⟩:=ads.mp hs
   simp only [hk,if_true,ck,cellOf,ha,adI,pure_bind]
   exact jl r _ hr
  ·simp only [hk,ck,pure_bind,abQ,if_false]
   exact jl r _ hr
theorem GW {env:Env} {scope:Scope} (h:∀y∈scope.names,y.2=.free->(env.cells.lookup y.1).isSome=true):closureFor scope env=pure (ck env scope.names []):=by
 have e:=jl (env:=env) scope.names [] h
 unfold closureFor
 simp only [bind_pure_comp,map_pure] at e ⊢
 rw [<- e]
 simp
theorem qk {env:Env}:∀{names:List (Str × NameKind)} {cs:List (Str × aay)} {y:Str} {c:aay},(∀z∈names,z.2=.free->(env.cells.lookup z.1).isSome=true)->(∀y c,cs.lookup y=some c->env.cells.lookup y=some c) ->
  (ck env names cs).lookup y=some c->env.cells.lookup y=some c
 | [],_,_,_,_,B,h=>B _ _ h
 | (n,k)::r,cs,y,c,hn,B,h=>by
  have hr:∀z∈r,z.2=.free->(env.cells.lookup z.1).isSome=true:=fun z hz=>hn z (aam _ hz)
  unfold ck at h
  by_cases hk:(k == adk)=true
  ·rw [if_pos hk] at h
   have e:k=.free:=by simpa using hk
   obtain⟨a,ha⟩:=ads.mp (hn (n,k) aas e)
   refine qk hr (fun z d q=>?_) h
   rw [aco] at q
   cases hz:z == n with
   | true =>
    have G:z=n:=by simpa using hz
    rw [hz] at q
    simp only [ha,adI] at q
    have F:env.cells.lookup n=some a:=ha
    rw [G,F]
    exact q
   | false =>
    rw [hz] at q
    exact B z d q
  ·rw [if_neg hk] at h
   exact qk hr B h
theorem qm {env:Env}:∀{names:List (Str × NameKind)} {cs:List (Str × aay)} {y:Str},((y,adk)∈names\/(cs.lookup y).isSome=true)->((ck env names cs).lookup y).isSome=true
 | [],_,_,h=>by
  rcases h with h|h
  ·cases h
  ·exact h
 | (n,k)::r,cs,y,h=>by
  unfold ck
  have key:∀a:aay,(cs.lookup y).isSome=true->(aeT y ((n,a)::cs)).isSome=true:=fun a q=>by
   rw [aco]
   cases y == n with
   | true=>rfl
   | false=>exact q
  by_cases hk:(k == adk)=true
  ·rw [if_pos hk]
   refine qm ?_
   rcases h with h|h
   ·rcases aaK.mp h with e|h
    ·cases e
     refine .inr ?_
     rw [aco]
     simp
    ·exact .inl h
   ·exact .inr (key _ h)
  ·rw [if_neg hk]
   refine qm ?_
   rcases h with h|h
   ·rcases aaK.mp h with e|h
    ·cases e
     exact absurd (by simp) hk
    ·exact .inl h
   ·exact .inr h
noncomputable def kh (X:Cx) (scope:Scope) (cl:List (Str × aay)) (N:List Str) (C:aay) (s₀:aah) (H₀:Hp) (ex:List aay):Cx where
 prog:=X.prog
 w:=X.w
 K:=X.K
 mg:=X.mg
 base:=X.base
 A:=X.A
 N:=N
 s₀:=s₀
 H₀:=H₀
 env:=compEnvC scope cl C X.env
 outer:=X.stack
 stack:=X.stack
 ex:=ex
 fn:=fun _=>false
 calm:=X.calm
 pn:=[]
 xe:=fun _ _=>False
noncomputable def g8 (X:Cx) (x:Str) (bo:List Nat):List Str:=x::bo.map fun i=>X.N.getD i (aad "")
noncomputable def cQ (σ:St) (o:Option V) (bo:List Nat):St:=o::bo.map fun i=>(σ[i]?).join
noncomputable def vT (outer scope:Scope) (x:Str) (N:List Str):Bool :=
 decide (scope.kind=.function) && scope.names.all (fun y=>decide (y.2≠.cell)) && scope.names.all (fun y=>decide (y.2=.local->scope.names.lookup y.1=some .local)) && decide (scope.names.lookup x=some .local) &&
  scope.names.all (fun y=>decide (y.2=.free->(outer.names.lookup y.1=some .cell\/outer.names.lookup y.1=some .free))) && N.tail.all (fun y=>decide (scope.names.lookup y=some .free)) && decide N.Nodup
structure MV (outer scope:Scope) (x:Str) (N:List Str):Prop where
 kind:scope.kind=.function
 MW:∀y∈scope.names,y.2≠.cell
 locs:∀y∈scope.names,y.2=.local->scope.names.lookup y.1=some .local
 tgt:scope.names.lookup x=some .local
 frees:∀y∈scope.names,y.2=.free->(outer.names.lookup y.1=some .cell\/outer.names.lookup y.1=some .free)
 bo:∀y∈N.tail,scope.names.lookup y=some .free
 nd:N.Nodup
theorem Ku {outer scope:Scope} {x:Str} {N:List Str} (h:vT outer scope x N=true):MV outer scope x N:=by
 unfold vT at h
 simp only [abg,ab3,decide_eq_true_eq] at h
 obtain⟨⟨⟨⟨⟨⟨h1,h2⟩,q⟩,z⟩,B⟩,F⟩,G⟩:=h
 exact⟨h1,h2,q,z,B,F,G⟩
theorem qo {scope:Scope} {env:Env} {y:Str} {q:NameKind} (h:(relabel scope env).names.lookup y=some q):∃k,scope.names.lookup y=some k/\(q=k\/(k=.free/\q=.cell)):=by
 have go:∀(names:List (Str × NameKind)),(names.map fun(n,k)=>if (k == adk && env.scope.kind == .function && env.kindOf n == some .cell) then (n,aia) else (n,k)).lookup y=some q ->
   ∃k,names.lookup y=some k/\(q=k\/(k=.free/\q=.cell)):=by
  intro names
  induction names with
  | nil=>intro h;simp at h
  | cons a r ih =>
   obtain⟨n,k⟩:=a
   intro h
   rw [abw] at h
   by_cases B:(k == adk && env.scope.kind == .function && env.kindOf n == some .cell)=true
   ·simp only [B,if_true,aco] at h
    rw [aco]
    cases z:y == n with
    | true =>
     rw [z] at h
     have hk:k=.free:=by
      simp only [abg,beq_iff_eq] at B
      exact B.1.1
     exact⟨k,rfl,.inr ⟨hk,(abA h).symm⟩⟩
    | false =>
     rw [z] at h
     exact ih h
   ·simp only [B,abQ,if_false,aco] at h
    rw [aco]
    cases z:y == n with
    | true =>
     rw [z] at h
     exact⟨k,rfl,.inl (abA h).symm⟩
    | false =>
     rw [z] at h
     exact ih h
 exact go scope.names h
theorem B1 {scope:Scope} {env:Env} {y:Str} (h:scope.names.lookup y=some .free):(relabel scope env).names.lookup y=some .cell\/(relabel scope env).names.lookup y=some .free:=by
 have go:∀(names:List (Str × NameKind)),names.lookup y=some .free->(names.map fun(n,k)=>if (k == adk && env.scope.kind == .function && env.kindOf n == some .cell) then (n,aia) else (n,k)).lookup y=some .cell \/
   (names.map fun(n,k)=>if (k == adk && env.scope.kind == .function && env.kindOf n == some .cell) then (n,aia) else (n,k)).lookup y=some .free:=by
  intro names
  induction names with
  | nil=>intro h;simp at h
  | cons a r ih =>
   obtain⟨n,k⟩:=a
   intro h
   rw [abw]
   rw [aco] at h
   by_cases z:(k == adk && env.scope.kind == .function && env.kindOf n == some .cell)=true
   ·simp only [z,if_true,aco]
    cases q:y == n with
    | true=>exact .inl rfl
    | false =>
     rw [q] at h
     exact ih h
   ·simp only [z,abQ,if_false,aco]
    cases q:y == n with
    | true =>
     rw [q] at h
     have h':k=.free:=abA h
     exact .inr (by rw [h'])
    | false =>
     rw [q] at h
     exact ih h
 exact go scope.names h
def Vn (X:Cx) (ifs:List Expr) (t:TT):Prop :=
 ∀(pins:List (aay × Obj)) (s:aah) (σ:St) (H:Hp) (Q:Bool->Hp->Prop),Inv X pins σ H s->t σ H Q ->
  aby (model X.prog X.w) X.A (forIn ifs true fun c r=>if r=true then do let ok <- isTrue c X.env (eval c X.env);pure (aeo ok) else pure (aeo r)) (TP X pins σ Q) X.xe s
def GX:TT:=fun _ H Q=>Q true H
theorem bL {X:Cx}:Vn X [] GX:=fun _ _ _ H _ I h=>wpAny_tests_nil ⟨H,I,h⟩
theorem gA {X:Cx} {c:Expr} {t:TT} (h:PT X c t):Vn X [c] t:=fun pins s σ H Q I q=>wpAny_tests_one (h pins s σ H Q I q)
theorem B2 {prog:abn} {w:abU} {A:abP} {R:Result->aah->Prop} {s:aah} {elt target iter:Expr} {ifs:List Expr} {scope:Scope} {pos:Pos} {it acc:aae} {env:Env} (I:Nat->aah->Prop)
  (turn:∀n s,I n s->aby (model prog w) A (pyNext it) (fun r s₁=>match r with
   | none=>R (.ok .next) s₁
   | some v=>aby (model prog w) A (letOwnedTupleGo target it v) (fun _ s₁'=>aby (model prog w) A (assign target env v) (fun _ s₂ =>
     aby (model prog w) A (forIn ifs true fun c r=>if r=true then do let ok <- isTrue c env (eval c env);pure (aeo ok) else pure (aeo r)) (fun ok s₃ =>
      if ok=true then aby (model prog w) A (eval elt env) (fun x s₄ =>
       aby (model prog w) A (call (.builtin "list.append") [acc,x]) (fun _ s₅=>∃m,m<n/\I m s₅) (fun _ _=>False) s₄) (fun _ _=>False) s₃
      else ∃m,m<n/\I m s₃) (fun _ _=>False) s₂) (fun _ _=>False) s₁') (fun _ _=>False) s₁) (fun _ _=>False) s)
  (n:Nat) (h:I n s):codeAny (model prog w) A (.compLoop (.ListComp elt [⟨target,iter,ifs,0⟩] scope pos) 0 it acc env) R s:=by
 refine codeAny_loop rfl I (fun n s q=>?_) n h
 show aby _ A ((compTurn (.ListComp elt [⟨target,iter,ifs,0⟩] scope pos) 0 it acc env).onRaise (fun x=>do noteFrame x env;theTreesLotGoes x)) _ _ s
 refine wpAny_noted ?_
 rw [compTurn_list]
 refine aac (wpAny_standAt (aac (wpAny_mono (turn n s q) (fun r s₁ h₁=>?_) fun _ _ h'=>h'.elim)))
 cases r with
 | none=>exact aav h₁
 | some v =>
  refine aac (wpAny_mono h₁ (fun _ s₁' h₁'=>?_) fun _ _ h'=>h'.elim)
  refine aac (wpAny_mono h₁' (fun _ s₂ h₂=>aac (wpAny_mono h₂ (fun ok s₃ h₃=>?_) fun _ _ h'=>h'.elim)) fun _ _ h'=>h'.elim)
  cases ok with
  | false=>exact aav ⟨rfl,h₃⟩
  | true =>
   exact aac (aac (wpAny_mono h₃ (fun x s₄ h₄=>aac (wpAny_mono h₄ (fun _ s₅ h₅=>aav (aav ⟨rfl,h₅⟩)) fun _ _ h'=>h'.elim)) fun _ _ h'=>h'.elim))
def lY (tt:TT) (te:TE) (bo:List Nat) (σ:St) (Q:VK) (J:It) (H1:Hp) (D:aay):Prop :=
 ∃W:Nat->Nat->List V->Hp->Prop,(∃m,W 0 m [] (upd H1 D (.lst [])))/\∀i m ys H,W i m ys H ->
  H D=some (.lst ys)/\ys.length<aaj /\
  ((J.stop i H/\Q (.ref D) H)\/(J.go i H/\∃N:List V->Hp->Prop,(∀zs H',N zs H'->∃q,q<m/\W (i+1) q zs H')/\∀x H',J.RO i H x H'->tt (cQ σ (some x) bo) H' fun b U =>
   if b=true then te (cQ σ (some x) bo) U fun y H3=>H3 D=some (.lst ys)/\N (ys++[y]) (upd H3 D (.lst (ys++[y])))
   else N ys U))
def MX (wi:TI) (tt:TT) (te:TE) (bo:List Nat):TE:=fun σ H Q=>wi σ H fun J H1=>∀D,H1 D=none->lY tt te bo σ Q J H1 D
section
variable {X:Cx}
theorem GY {scope:Scope} {x:Str} {bo:List Nat} {pins:List (aay × Obj)} {σ:St} {H:Hp} {s3:aah} {h1:Heap} {fp:List aay} {m:Str->Option aae} {tk:Nat} (ok:MV X.env.scope scope x (g8 X x bo)) (I:Inv X pins σ H s3)
  (L:∀b∈fp,yR X pins H b) (mi:∀b∈fp,b<s3.heap.objs.size) (hn:h1.Ns s3.heap.objs.size m) (keep:∀b o,s3.heap.get? b=some o->h1.get? b=some o) :
  Inv (kh X scope (ck X.env scope.names []) (g8 X x bo) s3.heap.objs.size s3 H fp) [] (cQ σ none bo) H { s3 with heap:=h1,toks:=tk }:=by
 have Jg:∀z∈scope.names,z.2=.free->(X.env.cells.lookup z.1).isSome=true:=fun z hz Gx=>by
  obtain⟨c,e⟩:=I.ok.has z.1 (by
   rcases ok.frees z hz Gx with q|q
   ·exact .inl q
   ·exact .inr q)
  rw [e];rfl
 have sub:∀y c,(ck X.env scope.names []).lookup y=some c->X.env.cells.lookup y=some c:=fun y c h=>qk Jg (fun _ _ q=>by simp at q) h
 have hC:H s3.heap.objs.size=none:=I.hok.fresh (aar _)
 have Kb:∀y c,X.env.cells.lookup y=some c->c<s3.heap.objs.size:=fun y c e=>by
  obtain⟨v,z⟩:=I.cell y c e
  exact z.lt
 refine⟨⟨I.ok.mod,?_,I.ok.glob,I.ok.blt,aar _,fun y z c O B=>I.ok.inj y z c (sub _ _ O) (sub _ _ B),fun y J=>?_,fun y c Py _=>?_,I.ok.hd,I.ok.frames,.inl rfl,fun b F=>⟨abj (mi b F),fun y c e=>(L b F).2.2.2.2.1 y c (sub _ _ e)⟩,
   I.bs,ab0 I.ok.Pg I.sz,fun b o e F=>?_,fun b F P5=>?_,I.stack,I.BN⟩,
  rfl,I.bare,Un.kept keep,⟨m,hn,fun i y v O B e3=>?_⟩,fun y c e=>?_,hC,fun y c e=>I.iC y c (sub _ _ e),fun p hp=>absurd (show p∈([]:List (aay × Obj)) from hp) (by simp),I.hok.kept keep,by simp [kh,g8,cQ]⟩
 ·show(relabel scope X.env).kind=.function
  exact ok.kind
 ·have Z:(relabel scope X.env).names.lookup y=some .cell\/(relabel scope X.env).names.lookup y=some .free:=J
  have fr:scope.names.lookup y=some .free:=by
   rcases Z with q|q
   ·obtain⟨k,e,z⟩:=qo q
    rcases z with z|⟨z,_⟩
    ·exact absurd z.symm (ok.MW _ (ach e))
    ·rw [e,z]
   ·obtain⟨k,e,z⟩:=qo q
    rcases z with z|⟨_,z⟩
    ·rw [e,z]
    ·cases z
  exact ads.mp (qm (.inl (ach fr)))
 ·exact absurd (show(fun _=>false) y=true from Py) (by simp)
 ·rcases(L b F).2.2.2.1 with z|z
  ·exact I.ok.Ka b o e z
  ·exact absurd (aa6 (aaA e) (ab0 I.ok.Pg z)) (adJ _)
 ·rcases aaK.mp (I.BM b P5) with z|z
  ·exact(L b F).2.1 z
  ·exact(L b F).2.2.1 z
 ·have e1':(g8 X x bo)[i]?=some y:=O
  cases i with
  | zero=>simp [cQ] at B
  | succ i =>
   simp only [g8,aha,abc] at e1'
   simp only [cQ,aha,abc] at B
   cases V:bo[i]? with
   | none=>rw [V] at B;cases B
   | some j =>
    rw [V] at e1' B
    simp only [Option.map_some,Option.some.injEq] at e1' B
    cases hσ:σ[j]? with
    | none=>rw [hσ] at B;cases B
    | some o =>
     rw [hσ] at B
     have e2':o=some v:=B
     subst e2'
     have G:j<X.N.length:=by rw [<- I.len];exact(aaf.mp hσ).1
     have eN:X.N[j]?=some y:=by
      rw [Ge9 G]
      rw [Gd9,Ge9 G] at e1'
      exact congrArg some e1'
     have J:scope.names.lookup y=some .free:=ok.bo y (by
      show y∈bo.map fun i=>X.N.getD i (aad "")
      exact aaw.mpr ⟨j,acm V,e1'⟩)
     have hk:=ok.frees (y,.free) (ach J) rfl
     obtain⟨m',_,hl⟩:=I.loc
     obtain⟨u,r,q⟩:=hl j y v eN hσ (.inr hk)
     refine⟨u,r,.inr ⟨B1 J,?_⟩⟩
     rcases q with⟨k,_⟩|⟨_,c,e,z⟩
     ·have k':X.env.scope.names.lookup y=some .local:=k
      rw [k'] at hk
      rcases hk with hk|hk <;> cases hk
     ·obtain⟨c',e'⟩:=ads.mp (qm (env:=X.env) (cs:=[]) (.inl (ach J)))
      have ec:=sub _ _ e'
      rw [e] at ec
      cases ec
      obtain⟨o,Y,hd⟩:=z
      exact⟨c,e',o,keep c o Y,hd⟩
 ·obtain⟨v,o,Y,hd⟩:=I.cell y c (sub _ _ e)
  exact⟨v,o,keep c o Y,hd⟩
theorem AQ {x:Str} {px pos p:Pos} {iter elt:Expr} {ifs:List Expr} {scope:Scope} {wi:TI} {tt:TT} {te:TE} {bo:List Nat} {use:Option (aae->Sem Unit)} {QQ:aae->aah->Prop}
  (hc:X.calm=true) (ho:vT X.env.scope scope x (g8 X x bo)=true) (hi:PI X (.Name x px) iter wi)
  (ht:∀cl C s₀ H₀ ex,Vn (kh X scope cl (g8 X x bo) C s₀ H₀ ex) ifs tt) (he:∀cl C s₀ H₀ ex,PE (kh X scope cl (g8 X x bo) C s₀ H₀ ex) elt te)
  (hs:∀x,foldedSetIterable iter X.env x=pure x) {pins:List (aay × Obj)} {s:aah} {σ:St} {H:Hp} {Q:VK} (I:Inv X pins σ H s) (h:MX wi tt te bo σ H Q)
  (fin:∀(D C:aay) (H':Hp) (s':aah) (m:Str->Option aae),Inv X pins σ H' s'->Q (.ref D) H'->s'.heap.Ns C m->yR X pins H' C->compPost (model X.prog X.w) X.A X.xe use QQ (.ref D) C (.ok .next) s') :
  aby (model X.prog X.w) X.A (comprehension (.ListComp elt [⟨.Name x px,iter,ifs,0⟩] scope pos) scope X.env p (newList []) false (eval iter X.env) use) QQ X.xe s:=by
 have ok:=Ku ho
 have Jg:∀z∈scope.names,z.2=.free->(X.env.cells.lookup z.1).isSome=true:=fun z hz Gx=>by
  obtain⟨c,e⟩:=I.ok.has z.1 (by
   rcases ok.frees z hz Gx with q|q
   ·exact .inl q
   ·exact .inr q)
  rw [e];rfl
 refine wpAny_comprehension_free (cl:=ck X.env scope.names []) (use:=use) rfl hs (GW Jg) ok.kind ok.locs (thn (hi pins s σ H _ I h) fun v s1 h1=>thn h1 fun itv s2 h2=>?_)
 obtain⟨it,fp,tn,J,U,e,I2,T,Kg,f2,rd⟩:=h2
 subst e
 refine wpAny_newObj_type (wpAny_newFunctionEnv ok.MW (by intro y hy;simp at hy) (fun h₁ Tq Tt=>?_) ok.kind)
 dsimp only at Tq Tt ⊢
 have AR:U s2.heap.objs.size=none:=I2.hok.fresh (aar _)
 obtain⟨W,⟨m0,w0⟩,turn⟩:=rd s2.heap.objs.size AR
 have Wn:∀b∈fp,b<s2.heap.objs.size:=fun b B=>by
  obtain⟨o,e,_⟩:=T.obj 0 _ Kg b B
  exact aaA e
 have hsz:(s2.heap.push { cls:=.type "list",dict:=none,data:=.seq ([]:List aae).toArray }).objs.size=s2.heap.objs.size+1:=adN ..
 have I3:Inv X pins σ (upd U s2.heap.objs.size (.lst [])) { s2 with heap:=s2.heap.push { cls:=.type "list",dict:=none,data:=.seq ([]:List aae).toArray } } :=
  I2.laid (t':=s2.toks) (fun b u e=>aag _ e) (aar _) ⟨by simp,[],0,.nil,aa0 _ rfl⟩
 have S6:tn 0 (s2.heap.push { cls:=.type "list",dict:=none,data:=.seq ([]:List aae).toArray }):=T.keep _ _ _ Kg fun b _ o e=>aag _ e
 generalize a7:s2.heap.push { cls:=.type "list",dict:=none,data:=.seq ([]:List aae).toArray }=G at Tq Tt hsz I3 S6 ⊢
 generalize a3:upd U s2.heap.objs.size (.lst [])=H3 at I3 w0
 have Wo:∀b∈fp,b<G.objs.size:=fun b B=>by rw [hsz];exact aev (Wn b B)
 have O:∀b∈fp,yR X pins H3 b:=fun b B=>⟨by rw [<- a3,aD (abj (Wn b B))];exact(f2 b B).1,(f2 b B).2⟩
 have keep:∀b o,G.get? b=some o->h₁.get? b=some o:=fun b o e=>Tt.extBut b o (abj (aaA e)) (aag _ e)
 have I4:=GY (s3:={ s2 with heap:=G }) (tk:=s2.toks+([]:List (Str × aae)).length) ok I3 O Wo Tq keep
 have st4:tn 0 h₁:=T.keep _ _ _ S6 fun b _ o e=>keep b o e
 generalize GZ:kh X scope (ck X.env scope.names []) (g8 X x bo) ({ s2 with heap:=G }:aah).heap.objs.size { s2 with heap:=G } H3 fp=F at I4
 have eA:F.A=X.A:=by rw [<- GZ] <;> rfl
 have eP:F.prog=X.prog:=by rw [<- GZ] <;> rfl
 have Y:F.w=X.w:=by rw [<- GZ] <;> rfl
 have eK:F.K=X.K:=by rw [<- GZ] <;> rfl
 have L:F.env=compEnvC scope (ck X.env scope.names []) G.objs.size X.env:=by rw [<- GZ] <;> rfl
 have ex:F.xe=fun _ _=>False:=by rw [<- GZ] <;> rfl
 have eN:F.N=g8 X x bo:=by rw [<- GZ] <;> rfl
 have ec:F.calm=true:=by rw [<- GZ];exact hc
 have efs:F.fs=jd X.stack:=by rw [<- GZ] <;> rfl
 have a4:Vn F ifs tt:=by rw [<- GZ];exact ht _ _ _ _ _
 have a2:PE F elt te:=by rw [<- GZ];exact he _ _ _ _ _
 have leave:∀{σ':St} {H':Hp} {s':aah},Inv F [] σ' H' s'->Q (.ref s2.heap.objs.size) H'->compPost (model X.prog X.w) X.A X.xe use QQ (.ref s2.heap.objs.size) G.objs.size (.ok .next) s':=fun {σ' H' s'} J q=>by
  have un:Un (jd X.stack) fp H3 H' G s'.heap:=by have z:=J.base;rw [<- GZ] at z;exact z
  have PR:s'.os=s2.os:=by have z:=J.os;rw [<- GZ] at z;exact z
  have hk:mm X.prog X.w H' s'.heap:=by have z:=J.hok;rw [eP,Y] at z;exact z
  have Jx:=I3.VY (s':=s') (ch:=fp) PR un hk J.bare fun b B=>⟨(O b B).2.2.2.1,(O b B).2.1,(O b B).2.2.2.2.1,(O b B).2.2.2.2.2⟩
  obtain⟨m,hn,_⟩:=J.loc
  have a5:s'.heap.Ns G.objs.size m:=by rw [L] at hn;exact hn
  have Gx:H' G.objs.size=none:=by have z:=J.free;rw [L] at z;exact z
  exact fin _ _ H' s' m Jx q a5 (I3.Kc (aar _) Gx)
 have GF:∀{H':Hp},(∀b∈fp,H' b=none)->∀b∈fp,yR F [] H' b:=fun {H'} hn b B=>by
  refine⟨hn b B,?_,?_,.inl ?_,fun y c e=>?_,fun p hp=>?_⟩
  ·rw [L];exact abj (Wo b B)
  ·rw [efs]
   intro z
   rcases aaK.mp (I3.BM b z) with z|z
   ·exact(O b B).2.1 z
   ·exact(O b B).2.2.1 z
  ·rw [<- GZ];exact B
  ·have e':(ck X.env scope.names []).lookup y=some c:=by rw [L] at e;exact e
   exact(O b B).2.2.2.2.1 y c (qk Jg (fun _ _ q=>by simp at q) e')
  ·rw [<- GZ] at hp
   exact absurd (show p∈([]:List (aay × Obj)) from hp) (by simp)
 have loop:∀s₃:aah,s₃={ s2 with heap:=h₁,toks:=s2.toks+([]:List (Str × aae)).length } ->
   codeAny (model X.prog X.w) X.A (.compLoop (.ListComp elt [⟨.Name x px,iter,ifs,0⟩] scope pos) 0 (.ref it) (.ref s2.heap.objs.size) (compEnvC scope (ck X.env scope.names []) G.objs.size X.env))
    (compPost (model X.prog X.w) X.A X.xe use QQ (.ref s2.heap.objs.size) G.objs.size) s₃:=by
  rintro s₃ rfl
  refine B2 (fun n s'=>∃i o H' ys,Inv F [] (cQ σ o bo) H' s'/\tn i s'.heap/\(∀b∈fp,H' b=none)/\W i n ys H') ?_ m0 ⟨0,none,H3,[],I4,st4,fun b B=>(O b B).1,w0⟩
  rintro n s' ⟨i,o,H',ys,J,BQ,fr',w'⟩
  obtain⟨a6,hlen,alt⟩:=turn i n ys H' w'
  rcases alt with⟨stop,q⟩|⟨go,N,hN,step⟩
  ·have z:=T.done F eP Y eK ec i [] s' _ H' (fun _ _=>False) J (GF fr') BQ stop
   rw [eA] at z
   refine thn z fun r s4 Zq=>?_
   obtain⟨hr,J4⟩:=Zq
   subst hr
   exact leave J4 q
  ·have z:=T.item F eP Y eK ec i [] s' _ H' (fun _ _=>False) J (GF fr') BQ go
   rw [eA] at z
   refine thn z fun r s4 Zq=>?_
   obtain⟨u,hr,h4⟩:=Zq
   subst hr
   refine thn h4 fun _ s5 Zq=>?_
   obtain⟨xv,H5,J5,r5,y5,S7,V8⟩:=Zq
   have J5':=J5.pinned (GF V8) (T.obj _ _ S7)
   have lx:(relabel scope X.env).names.lookup x=some .local:=lookup_relabel_local ok.tgt
   have hg:PG F (.Name x px) (AH 0):=bj (by rw [eN];exact ok.nd) (by rw [eN] <;> rfl) (by rw [L];exact .inl lx) (by rw [L];exact .inr lx)
   have zg:=hg _ s5 _ H5 xv u (fun σ6 H6=>σ6=cQ σ (some xv) bo/\H6=H5) J5' r5 ⟨rfl,rfl⟩
   rw [eP,Y,eA,L,ex] at zg
   refine thn zg fun _ s6 Zq=>?_
   obtain⟨σ6,H6,J6,q6⟩:=Zq
   obtain⟨e6,e6'⟩:=q6
   subst e6 e6'
   have zt:=a4 _ s6 _ _ _ J6 (step xv _ y5)
   rw [eP,Y,eA,L,ex] at zt
   refine thn zt fun b s7 Zq=>?_
   obtain⟨H7,J7,q7⟩:=Zq
   have again:∀{H8:Hp} {Z:aah} {Tv:List V},Inv F ([]++vO fp s5.heap) (cQ σ (some xv) bo) H8 Z->N Tv H8->∃m,m<n/\∃i o H' ys,Inv F [] (cQ σ o bo) H' Z/\tn i Z.heap/\(∀b∈fp,H' b=none)/\W i m ys H':=fun {H8 Z Tv} J8 n8=>by
    obtain⟨m',hm,w8⟩:=hN Tv H8 n8
    refine⟨m',hm,i+1,some xv,H8,Tv,J8.qf,T.keep _ _ _ S7 fun b B o e=>(J8.pin (b,o) (aak _ (aak _ (j0 B e)))).1,fun b B=>?_,w8⟩
    obtain⟨o,e,d⟩:=T.obj _ _ S7 b B
    exact(J8.pin (b,o) (aak _ (aak _ (j0 B e)))).2.1
   cases b with
   | false=>exact again J7 q7
   | true =>
    have ze:=a2 _ s7 _ H7 _ J7 q7
    rw [eP,Y,eA,L,ex] at ze
    refine thn ze fun yv Z Zq=>?_
    obtain⟨y,H8,J8,r8,a1,q8⟩:=Zq
    have za:=bz (X:=F) _ Z _ H8 (.ref s2.heap.objs.size) [y] (.ref s2.heap.objs.size) [yv] (fun _ H9=>H9=upd H8 s2.heap.objs.size (.lst (ys++[y]))) J8 rfl (.cons r8 .nil) ⟨_,ys,y,rfl,rfl,a1,hlen,rfl⟩
    rw [eP,Y,eA,ex] at za
    refine thn za fun _ s9 Zq=>?_
    obtain⟨_,H9,J9,_,q9⟩:=Zq
    subst q9
    exact again J9 q8
 exact codeAny_compStart_list (loop _ rfl) (T.self _ 0 _ _ _ st4 (loop _ rfl))
theorem bW {x:Str} {B pos:Pos} {iter elt:Expr} {ifs:List Expr} {scope:Scope} {wi:TI} {tt:TT} {te:TE} (bo:List Nat)
  (G:X.calm=true) (O:vT X.env.scope scope x (g8 X x bo)=true) (hi:PI X (.Name x B) iter wi)
  (V:∀cl C s₀ H₀ ex,Vn (kh X scope cl (g8 X x bo) C s₀ H₀ ex) ifs tt) (L:∀cl C s₀ H₀ ex,PE (kh X scope cl (g8 X x bo) C s₀ H₀ ex) elt te)
  (hs:autoParam (∀x,foldedSetIterable iter X.env x=pure x) z4._auto_1):PE X (.ListComp elt [⟨.Name x B,iter,ifs,0⟩] scope pos) (MX wi tt te bo):=by
 intro pins s σ H Q I h
 rw [eval_ListComp]
 refine AQ (use:=none) G O hi V L hs I h fun D C H' s' m J q hn z=>?_
 exact⟨m,hn,fun h' sb=>⟨.ref D,H',J.turned (t':=s'.toks) (fun b o F e=>(sb.2 b F).trans e) z.1 z.2.1 z.2.2.2.1 z.2.2.2.2.1 z.2.2.2.2.2,rfl,q⟩⟩
theorem eZ {i:Nat} {x y:Str} {F G pos Wq:Pos} {iter elt:Expr} {ifs:List Expr} {scope:Scope} {wi:TI} {tt:TT} {te:TE} (bo:List Nat)
  (Y:X.N.Nodup) (Tw:X.N[i]?=some y) (hy:Loc X.env.scope y)
  (hc:X.calm=true) (ho:vT X.env.scope scope x (g8 X x bo)=true) (hi:PI X (.Name x F) iter wi)
  (ht:∀cl C s₀ H₀ ex,Vn (kh X scope cl (g8 X x bo) C s₀ H₀ ex) ifs tt) (he:∀cl C s₀ H₀ ex,PE (kh X scope cl (g8 X x bo) C s₀ H₀ ex) elt te)
  (O:autoParam (swapsWith (.ListComp elt [⟨.Name x F,iter,ifs,0⟩] scope pos) (some (.Name y G)) Wq.line X.env=pure true) z0._auto_1)
  (hs:autoParam (∀x,foldedSetIterable iter X.env x=pure x) z4._auto_1) (hf:autoParam (X.fn y=true\/X.env.scope.names.lookup y=some .local) z3._auto_1) :
  PS X (.Assign [.Name y G] (.ListComp elt [⟨.Name x F,iter,ifs,0⟩] scope pos) Wq) (PD (MX wi tt te bo) (AH i)):=by
 intro pins s σ H D I h
 rw [exec_Assign_Name_used _ _ _ _ O]
 refine aac (wpAny_standAt (aac ?_))
 show aby _ X.A (do let _ <- comprehension (.ListComp elt [⟨.Name x F,iter,ifs,0⟩] scope pos) scope X.env _ (newList []) false (eval iter X.env) (some (assign (.Name y G) X.env))) _ _ s
 refine aac (wpAny_mono (AQ (QQ:=fun _ s'=>SP X pins D .next s') (use:=some (assign (.Name y G) X.env)) hc ho hi ht he hs I h fun V C H' s' m J q hn B=>?_) (fun _ s' hq=>aav (aav hq)) fun _ _ e=>e)
 refine wpAny_assign_Name (AF (v:=.ref V) J Y Tw hy rfl (fun s2 I2 Zf=>?_) hf)
 obtain⟨a,sb,ha⟩:=Zf
 have L:C≠a:=by
  rcases ha with rfl|e
  ·exact B.2.1
  ·exact fun z=>B.2.2.2.2.1 y a e z.symm
 exact⟨m,hn.sameBut sb L,fun h'' sb2=>⟨_,H',I2.turned (t':=s2.toks) (fun b o Z e=>(sb2.2 b Z).trans e) B.1 B.2.1 B.2.2.2.1 B.2.2.2.2.1 B.2.2.2.2.2,q⟩⟩
end
section
variable {tt:TT} {te:TE} {bo:List Nat} {σ:St} {H1:Hp} {Q:VK}
theorem vv {J:It} {D:aay} (n:Nat) (hn:n<aaj) (at_:Nat->V) (Pv:Nat->List V->Hp->Prop) (h0:Pv 0 [] (upd H1 D (.lst [])))
  (vM:∀ys H,Pv n ys H->J.stop n H) (B:∀i ys H,Pv i ys H->i<n->J.go i H) (L:∀i ys H x H',Pv i ys H->i<n->J.RO i H x H'->H'=H/\x=at_ i)
  (G:∀i ys H,Pv i ys H->H D=some (.lst ys)/\ys.length<=i)
  (hs:∀i ys H,i<n->Pv i ys H->tt (cQ σ (some (at_ i)) bo) H fun b U =>
   if b=true then te (cQ σ (some (at_ i)) bo) U fun y H3=>H3 D=some (.lst ys)/\Pv (i+1) (ys++[y]) (upd H3 D (.lst (ys++[y])))
   else Pv (i+1) ys U)
  (hd:∀ys H,Pv n ys H->Q (.ref D) H):lY tt te bo σ Q J H1 D:=by
 refine⟨fun i m ys H=>m=n - i/\i<=n/\Pv i ys H,⟨n,by simp,ab4 _,h0⟩,?_⟩
 rintro i m ys H ⟨rfl,hi,p⟩
 obtain⟨z,hl⟩:=G i ys H p
 refine⟨z,by omega,?_⟩
 by_cases mi:i<n
 ·refine .inr ⟨B i ys H p mi,Pv (i+1),fun zs H' q=>⟨n - (i+1),by omega,rfl,mi,q⟩,fun x H' y=>?_⟩
  obtain⟨e,F⟩:=L i ys H x H' p mi y
  subst e F
  exact hs i ys _ mi p
 ·have e:i=n:=by omega
  subst e
  exact .inl ⟨vM ys H p,hd ys H p⟩
theorem G0 {lo:Int} {n:Nat} {D:aay} (hn:n<aaj) (Pv:Nat->List V->Hp->Prop) (h0:Pv 0 [] (upd H1 D (.lst [])))
  (q:∀i ys H,Pv i ys H->H D=some (.lst ys)/\ys.length<=i)
  (hs:∀i ys H,i<n->Pv i ys H->tt (cQ σ (some (.int (lo+i))) bo) H fun b U =>
   if b=true then te (cQ σ (some (.int (lo+i))) bo) U fun y H3=>H3 D=some (.lst ys)/\Pv (i+1) (ys++[y]) (upd H3 D (.lst (ys++[y])))
   else Pv (i+1) ys U)
  (hd:∀ys H,Pv n ys H->Q (.ref D) H):lY tt te bo σ Q (RQ lo n) H1 D :=
 vv (J:=RQ lo n) (Q:=Q) (D:=D) (H1:=H1) n hn (fun i=>.int (lo+i)) Pv h0 (fun _ _ _=>aar _) (fun _ _ _ _ h=>h) (fun _ _ _ _ _ _ _ y=>y) q hs hd
theorem og {K:aaa} {a:aay} {xs:List V} {D:aay} (hn:xs.length<aaj) (Pv:Nat->List V->Hp->Prop) (h0:Pv 0 [] (upd H1 D (.lst [])))
  (hl:∀i ys H,Pv i ys H->aC K H a xs) (q:∀i ys H,Pv i ys H->H D=some (.lst ys)/\ys.length<=i)
  (hs:∀i ys H,i<xs.length->Pv i ys H->tt (cQ σ (some (xs.getD i .cg)) bo) H fun b U =>
   if b=true then te (cQ σ (some (xs.getD i .cg)) bo) U fun y H3=>H3 D=some (.lst ys)/\Pv (i+1) (ys++[y]) (upd H3 D (.lst (ys++[y])))
   else Pv (i+1) ys U)
  (hd:∀ys H,Pv xs.length ys H->Q (.ref D) H):lY tt te bo σ Q (Mj K a) H1 D :=
 vv (J:=Mj K a) (Q:=Q) (D:=D) (H1:=H1) xs.length hn (fun i=>xs.getD i .cg) Pv h0 (fun ys H p=>⟨xs,hl _ ys H p,aar _⟩)
  (fun i ys H p h=>⟨xs,xs[i],hl i ys H p,by simp [h]⟩) (fun i ys H x H' p h y=>⟨y.1,by
   have z:=y.2 xs (hl i ys H p)
   rw [Gd9,z] <;> rfl⟩) q hs hd
end
noncomputable def Zg (x:Str):It:=⟨fun i _=>i<x.cps.size,fun i H v H'=>H'=H/\∃c,x.cps[i]?=some c/\v=.str ⟨#[c]⟩,fun i _=>i=x.cps.size⟩
theorem MY {P:abn} {w:abU} {K:aaa} {tg:Expr} (ty:String) (Eb:ty="str_ascii_iterator"\/ty="str_iterator") (it:aay) (x:Str) (t:Tok) :
  Turn P w K tg (Zg x) [it] it (fun i h=>h.IsStrIter it ty x t i) where
 mem:=by simp
 obj:=fun i h st b q=>by
  have e:b=it:=by simpa using q
  subst e
  obtain⟨o,e,c,d⟩:=st
  exact⟨o,e,fun v z=>by rw [d] at z;cases z⟩
 keep:=fun i h h' st k=>by
  obtain⟨o,e,r⟩:=st
  exact⟨o,k it (by simp) o e,r⟩
 item:=by
  intro X V hw O B i pins s σ H E I F st Z
  subst V hw O
  obtain⟨f0,f1,f2,G,J,L⟩:=F it (by simp)
  have wk:Walks X.prog X.w X.A it [it] [it] x.cps.size (SignAt x) (fun i h=>h.IsStrIter it ty x t i):=by
   rcases Eb with e|e
   ·subst e;exact Walks.strAscii (I.ok.hd B) it x t
   ·subst e;exact Walks.strWide (I.ok.hd B) it x t
  have hn:["enumerate","zip","dict_itemiterator","dict_reverseitemiterator","odict_iterator","itertools.zip_longest","itertools.pairwise"].contains ty=false:=by
   rcases Eb with e|e
   ·subst e;decide
   ·subst e;decide
  refine wk.item i s _ E Z st fun v h' tk hv BQ kk=>?_
  obtain⟨c,u,Y,rfl⟩:=hv
  have I1:Inv X pins σ H { s with heap:=h',toks:=tk }:=I.turned (fun b o q e=>kk b o (by simpa using q) e) f0 f1 G J L
  obtain⟨o,e,ec,d⟩:=id BQ
  exact⟨_,rfl,IY (s:={ s with heap:=h',toks:=tk }) e ec d hn ⟨.str ⟨#[c]⟩,H,I1,⟨u,rfl⟩,⟨rfl,c,Y,rfl⟩,BQ,fun b q=>(F b q).1⟩⟩
 done:=by
  intro X V hw O B i pins s σ H E I F st Z
  subst V hw O
  obtain⟨f0,f1,f2,G,J,L⟩:=F it (by simp)
  have wk:Walks X.prog X.w X.A it [it] [it] x.cps.size (SignAt x) (fun i h=>h.IsStrIter it ty x t i):=by
   rcases Eb with e|e
   ·subst e;exact Walks.strAscii (I.ok.hd B) it x t
   ·subst e;exact Walks.strWide (I.ok.hd B) it x t
  have hi:i=x.cps.size:=Z
  subst hi
  exact wk.done s _ E st fun h' tk kk=>⟨rfl,I.turned (fun b o q e=>kk b o (by simpa using q) e) f0 f1 G J L⟩
 self:=fun A i s Q E st h=>by
  rcases Eb with e|e
  ·subst e;exact wpAny_pyIter_striter_ascii st h
  ·subst e;exact wpAny_pyIter_striter_wide st h
def abk (tl:TE):TI:=fun σ H R=>tl σ H fun x H1=>∃z,x=.str z/\R (Zg z) H1
section
variable {X:Cx} {tg:Expr}
theorem Tx {l:Expr} {tl:TE} (hl:PE X l tl):PI X tg l (abk tl):=by
 intro pins s σ H R I h
 refine thn (hl pins s σ H _ I h) fun v s1 Zq=>?_
 obtain⟨x,H1,I1,F,q1⟩:=Zq
 obtain⟨z,e,q⟩:=q1
 subst e
 obtain⟨t,rfl⟩:=F
 have fin:∀ty,(ty="str_ascii_iterator"\/ty="str_iterator")->PIE X pins σ tg R (.ref s1.heap.objs.size) { s1 with heap:=s1.heap.push { cls:=.type ty,data:=.fields #[.str z t,.int 0 0] } }:=fun ty Eb=>by
  refine⟨s1.heap.objs.size,[s1.heap.objs.size],_,_,H1,rfl,I1.kept (t':=s1.toks) fun b o e=>aag _ e,MY ty Eb _ z t,⟨_,aa0 _ rfl,rfl,rfl⟩,fun b B=>?_,q⟩
  have e:b=s1.heap.objs.size:=by simpa using B
  subst e
  exact I1.Kc (aar _) (I1.hok.fresh (aar _))
 cases ha:z.cps.all (·<128)
 ·exact wpAny_pyIter_wide ha (fin _ (.inr rfl))
 ·exact wpAny_pyIter_ascii ha (fin _ (.inl rfl))
end
theorem MZ {tt:TT} {te:TE} {bo:List Nat} {σ:St} {H1:Hp} {Q:VK} {x:Str} {D:aay} (hn:x.cps.size<aaj) (Pv:Nat->List V->Hp->Prop) (h0:Pv 0 [] (upd H1 D (.lst [])))
  (q:∀i ys H,Pv i ys H->H D=some (.lst ys)/\ys.length<=i)
  (hs:∀i ys H,i<x.cps.size->Pv i ys H->tt (cQ σ (some (.str ⟨#[x.cps.getD i 0]⟩)) bo) H fun b U =>
   if b=true then te (cQ σ (some (.str ⟨#[x.cps.getD i 0]⟩)) bo) U fun y H3=>H3 D=some (.lst ys)/\Pv (i+1) (ys++[y]) (upd H3 D (.lst (ys++[y])))
   else Pv (i+1) ys U)
  (hd:∀ys H,Pv x.cps.size ys H->Q (.ref D) H):lY tt te bo σ Q (Zg x) H1 D :=
 vv (J:=Zg x) (Q:=Q) (D:=D) (H1:=H1) x.cps.size hn (fun i=>.str ⟨#[x.cps.getD i 0]⟩) Pv h0 (fun _ _ _=>rfl) (fun _ _ _ _ h=>h)
  (fun i ys H v H' p h y=>⟨y.1,by
   obtain⟨c,e,rfl⟩:=y.2
   rw [abV,e] <;> rfl⟩) q hs hd
section
variable {X:Cx}
theorem vU {zs:List Str}:∀{us:List aae},Vals (zs.map V.str) us->StrsAre us zs:=by
 induction zs with
 | nil=>intro us r;rw [adK] at r;cases r;exact .nil
 | cons z zs ih =>
  intro us r
  rw [abw] at r
  cases r with
  | cons q r2 =>
   obtain⟨t,e⟩:=q
   subst e
   exact .cons z t (ih r2)
def rJoin (K:aaa):V->List V->Hp->VK->Prop:=fun x vs H Q=>∃sep l zs,x=.str sep/\vs=[.ref l]/\(aC K H l (zs.map V.str)\/bH K H l (zs.map V.str))/\(zs.map (·.length)).sum+zs.length * sep.length<=16777216/\Q (.str (ait sep zs)) H
theorem vw:PZ X "str.join" (rJoin X.K):=by
 intro pins s σ H x vs v us Q I rx rv h
 obtain⟨sep,l,zs,rfl,rfl,z,hz,q⟩:=h
 obtain⟨t,rfl⟩:=rx
 obtain⟨u,rfl,ru⟩:=vals1 rv
 cases ru
 rcases z with z|z
 ·obtain⟨its,B,pl,_⟩:=I.list z
  exact join_list (items:=its.toArray) pl.isList (vU B) hz fun t' k=>⟨.str _,H,I.tok _,⟨t',rfl⟩,q⟩
 ·obtain⟨its,B,pl,_⟩:=I.tuple z
  exact join_tuple (items:=its.toArray) pl (vU B) hz fun t' k=>⟨.str _,H,I.tok _,⟨t',rfl⟩,q⟩
theorem t8 {bs:List Bool}:∀{us:List aae},Vals (bs.map V.bl) us->us=bs.map ae2:=by
 induction bs with
 | nil=>intro us r;rw [adK] at r;cases r;rfl
 | cons z zs ih =>
  intro us r
  rw [abw] at r
  cases r with
  | cons q r2 =>
   have e:_=ae2 z:=q
   rw [e,ih r2]
   rfl
theorem all_range (bs:List Bool):((acr bs.length).all fun i=>(bs[i]?).getD true)=bs.all id:=by
 rw [ac3,ab3,ab3]
 constructor
 ·intro h b B
  obtain⟨i,hi,rfl⟩:=agw B
  have z:=h i (acy.mpr hi)
  simpa [hi] using z
 ·intro h i hi
  have q:=acy.mp hi
  have z:=h _ (aan q)
  simpa [q] using z
theorem Ew:fD X (.builtin "all") (fun xs H Q=>∃(p:aay) (bs:List Bool),xs=[.ref p]/\X.calm=true/\aC X.K H p (bs.map V.bl)/\Q (.bl (bs.all id)) H):=by
 intro pins s σ H xs us Q I r h
 obtain⟨p,bs,rfl,Y,Z,q⟩:=h
 obtain⟨u,rfl,rx⟩:=vals1 r
 cases rx
 obtain⟨its,r',pl,hz⟩:=I.list Z
 have F:=t8 r'
 have mi:p<s.heap.objs.size:=by
  obtain⟨_,e,_⟩:=pl.isList
  exact aaA e
 refine call_all_walk (wpAny_pyIter_list pl.isList ?_)
 refine⟨s.heap.objs.size,[s.heap.objs.size,p],[s.heap.objs.size],its.toArray.size,_,_,fun i=>(bs[i]?).getD true,rfl,Walks.list (A:=X.A.in1) (I.ok.hd Y) _ p (abj mi) its.toArray,
  ⟨⟨_,aa0 _ rfl,rfl,rfl⟩,pl.isList.push _⟩,fun i v s' Q' E' O G=>?_,fun h' tk hk=>?_⟩
 ·have z:its[i]?=some v:=by simpa using O
  rw [F,abc] at z
  cases B:bs[i]? with
  | none=>rw [B] at z;cases z
  | some b =>
   rw [B] at z
   have L:ae2 b=v:=abA z
   subst L
   simp only [B,adI] at G
   exact wpAny_truthy_bool G
 ·have J:its.toArray.size=bs.length:=by rw [aaB,F,Lm9]
  rw [J,all_range]
  refine⟨.bl (bs.all id),H,I.kept (t':=tk) fun b o e=>hk b o (fun hm=>?_) (aag _ e),rfl,q⟩
  rw [aap.mp hm] at e
  exact adJ _ (aaA e)
theorem Ex:fD X (.builtin "isinstance") (fun xs H Q=>∃(x:V) (n:String) (t:aae) (b:Bool),xs=[x,.ty n]/\rZ X.K H x t/\acj X.K t (.type n)=some b/\Q (.bl b) H):=by
 intro pins s σ H xs us Q I r h
 obtain⟨x,n,t,b,rfl,ty,e,q⟩:=h
 obtain⟨u,B,rfl,rx,ru⟩:=vals2 r
 have z:B=Value.type n:=ru
 subst z
 exact Kk I rx ty e fun tk=>⟨.bl b,H,I.tok _,rfl,q⟩
end
section
variable {X:Cx}
def abl:V->Option Int->Option Int->Hp->VK->Prop:=fun x lo hi H Q=>∃z,x=.str z/\z.length<=aaj/\Q (.str (aib z lo hi)) H
theorem part_of {v:aae} {o:Option Int} (p:IsPart v o):∃q:Option (Int × Tok),v=partValue q/\q.map (·.1)=o:=by
 cases p with
 | none=>exact⟨none,rfl,rfl⟩
 | int i t=>exact⟨some (i,t),rfl,rfl⟩
theorem Tz:Wj X abl:=by
 intro pins s σ H x v vl vu lo hi sl Q I rx hs pl J h
 obtain⟨z,rfl,hz,q⟩:=h
 obtain⟨t,rfl⟩:=rx
 obtain⟨ql,rfl,B⟩:=part_of pl
 obtain⟨qu,rfl,G⟩:=part_of J
 refine⟨"str",_,F.slot_str_getitem.lookup,typeIs_str _ _ _,wpAny_getItem_str_slice (l:=ql) (u:=qu) (st:=none) hs rfl ?_⟩
 have e:sliceMade z t ql qu none=if ((1:Int) == 1 && (agx lo hi 1 z.length).length == z.length)=true then .val (.str z t) else .str ⟨((agx lo hi 1 z.length).filterMap (z.cps[·]?)).toArray⟩:=by
  unfold sliceMade slicePicked
  rw [B,G]
  rfl
 rw [e]
 exact post_val_or_str ⟨ab0 (Txt.slice_le z lo hi) hz,fun t' k=>⟨.str (aib z lo hi),H,I.tok _,⟨t',rfl⟩,q⟩⟩
theorem Kv {z:Str} {i j:Int} (h0:0<=i) (h1:i<=j) (h2:j<=z.length):(aib z (some i) (some j)).cps.toList=(z.cps.toList.drop i.toNat).take (j - i).toNat:=by
 have e:=eq_of_beq (slice_closesL (x:=z) h0 h1 h2)
 rw [e]
end
inductive Dt where
 | cg|bl (b:Bool)|int (i:Int)|str (x:Str)|tup (ds:List Dt)
 deriving Inhabited
inductive jm (K:aaa) (H:Hp):Dt->V->Prop
 | cg:jm K H .cg .cg
 | bl (b:Bool):jm K H (.bl b) (.bl b)
 | int (i:Int):jm K H (.int i) (.int i)
 | str (x:Str):jm K H (.str x) (.str x)
 | tup {ds:List Dt} {xs:List V} {a:aay} (h:bH K H a xs) (l:ds.length=xs.length) (r:∀(i:Nat) (h1:i<ds.length) (h2:i<xs.length),jm K H ds[i] xs[i]):jm K H (.tup ds) (.ref a)
mutual
noncomputable def Dt.deep:Dt->Nat
 | .tup ds=>Dt.gI ds+1
 | _=>0
noncomputable def Dt.gI:List Dt->Nat
 | []=>0
 | d::r=>max (Dt.deep d) (Dt.gI r)
end
theorem jM:∀{ds:List Dt} {i:Nat} (h:i<ds.length),(ds[i]).deep<=Dt.gI ds
 | d::r,0,_=>by
  show d.deep<=max (Dt.deep d) (Dt.gI r)
  omega
 | d::r,i+1,h=>by
  have z:=jM (ds:=r) (i:=i) (by simpa using h)
  show(r[i]'(by simpa using h)).deep<=max (Dt.deep d) (Dt.gI r)
  omega
mutual
noncomputable def B3:Dt->Dt->Bool
 | .cg,.cg=>true
 | .bl a,.bl b=>a == b
 | .bl a,.int b=>(if a then 1 else 0) == b
 | .int a,.bl b=>a == (if b then 1 else 0)
 | .int a,.int b=>a == b
 | .str a,.str b=>a == b
 | .tup a,.tup b=>r9 a b
 | _,_=>false
noncomputable def r9:List Dt->List Dt->Bool
 | [],[]=>true
 | a::r,b::q=>B3 a b && r9 r q
 | _,_=>false
end
theorem pF:∀(a b:List Dt),((acr (min a.length b.length)).all (fun i=>B3 (a.getD i .cg) (b.getD i .cg)) && a.length == b.length)=r9 a b
 | [],[]=>by unfold r9;rfl
 | [],b::q=>by unfold r9;simp
 | a::r,[]=>by unfold r9;simp
 | a::r,b::q=>by
  have ih:=pF r q
  rw [r9,<- ih]
  have e:min (a::r).length (b::q).length=min r.length q.length+1:=by simp only [aal];omega
  rw [e,List.range_succ_eq_map,ab6,ahw]
  have z:((a::r).length == (b::q).length)=(r.length == q.length):=by simp
  rw [z,Bool.and_assoc]
  rfl
theorem vV {K:aaa} {H:Hp} {X:Cx} {pins:List (aay × Obj)} {σ:St} {s:aah} (I:Inv X pins σ H s) (F:X.K=K) :
  ∀(n:Nat) {d e:Dt} {x:V},d.deep<=n->jm K H d x->jm K H e x->B3 d e=true:=by
 subst F
 intro n
 induction n with
 | zero =>
  intro d e x hd h1 h2
  cases h1 with
  | cg=>cases h2;rfl
  | bl a=>cases h2;show(a == a)=true;exact beq_self_eq_true a
  | int a=>cases h2;show(a == a)=true;exact beq_self_eq_true a
  | str a=>cases h2;show(a == a)=true;exact beq_self_eq_true a
  | tup h l r=>exact absurd hd (by simp [Dt.deep])
 | succ n ih =>
  intro d e x hd h1 h2
  cases h1 with
  | @tup ds xs a h l r =>
   cases h2 with
   | @tup es ys b h' Y Z =>
    have O:xs=ys:=I.rW h h'
    subst O
    show r9 ds es=true
    rw [<- pF,abg,ab3]
    refine⟨fun j J=>?_,by rw [l,Y];simp⟩
    have L:=acy.mp J
    have q:ds.getD j .cg=ds[j]'(by omega):=by simp [Gd9,(show j<ds.length by omega)]
    have B:es.getD j .cg=es[j]'(by omega):=by simp [Gd9,(show j<es.length by omega)]
    rw [q,B]
    refine ih ?_ (r j (by omega) (by omega)) (Z j (by omega) (by omega))
    have z:=jM (ds:=ds) (i:=j) (by omega)
    have G:Dt.gI ds+1<=n+1:=hd
    omega
  | cg=>exact ih (by simp [Dt.deep]) .cg h2
  | bl a=>exact ih (by simp [Dt.deep]) (.bl a) h2
  | int a=>exact ih (by simp [Dt.deep]) (.int a) h2
  | str a=>exact ih (by simp [Dt.deep]) (.str a) h2
theorem vW {K:aaa} {H:Hp} {X:Cx} {pins:List (aay × Obj)} {σ:St} {s:aah} (I:Inv X pins σ H s) (hK:X.K=K) :
  ∀(n:Nat) (A:abP) {d e:Dt} {x y:V} {u v:aae},d.deep<=n->A.units+n<cLine->jm K H d x->jm K H e y->RelV x u->RelV y v->adS A s u v (B3 d e):=by
 subst hK
 intro n
 induction n with
 | zero =>
  intro A d e x y u v hd hu h1 h2 ru rv
  cases h1 with
  | cg =>
   cases ru
   cases h2 with
   | cg=>cases rv;exact ahu _
   | bl b=>cases rv;exact ahF b
   | int b=>obtain⟨t,rfl⟩:=rv;exact ahR b t
   | str b=>obtain⟨t,rfl⟩:=rv;exact ahS b t
   | tup h l r=>cases rv;obtain⟨its,_,p,_⟩:=I.tuple h;exact SeqAt.EqAt.none_tuple p (by omega)
  | bl a =>
   cases ru
   cases h2 with
   | cg=>cases rv;exact ahG a
   | bl b=>cases rv;exact ahH a b
   | int b=>obtain⟨t,rfl⟩:=rv;exact ahT a b t
   | str b=>obtain⟨t,rfl⟩:=rv;exact ahU a b t
   | tup h l r=>cases rv;obtain⟨its,_,p,_⟩:=I.tuple h;exact SeqAt.EqAt.bool_tuple a p (by omega)
  | int a =>
   obtain⟨t',rfl⟩:=ru
   cases h2 with
   | cg=>cases rv;exact ahV a t'
   | bl b=>cases rv;exact ahW a t' b
   | int b=>obtain⟨t,rfl⟩:=rv;exact ah6 a t' b t
   | str b=>obtain⟨t,rfl⟩:=rv;exact agI a t' b t
   | tup h l r=>cases rv;obtain⟨its,_,p,_⟩:=I.tuple h;exact SeqAt.EqAt.int_tuple a t' p (by omega)
  | str a =>
   obtain⟨t',rfl⟩:=ru
   cases h2 with
   | cg=>cases rv;exact ahX a t'
   | bl b=>cases rv;exact ahY a t' b
   | int b=>obtain⟨t,rfl⟩:=rv;exact agJ a t' b t
   | str b=>obtain⟨t,rfl⟩:=rv;exact ah7 a t' b t
   | tup h l r=>cases rv;obtain⟨its,_,p,_⟩:=I.tuple h;exact SeqAt.EqAt.str_tuple a t' p (by omega)
  | tup h l r=>exact absurd hd (by simp [Dt.deep])
 | succ n ih =>
  intro A d e x y u v hd hu h1 h2 ru rv
  cases h1 with
  | @tup ds xs a h l r =>
   cases ru
   obtain⟨its,J,p1,_⟩:=I.tuple h
   cases h2 with
   | cg=>cases rv;exact SeqAt.EqAt.tuple_none p1 (by omega)
   | bl b=>cases rv;exact SeqAt.EqAt.tuple_bool b p1 (by omega)
   | int b=>obtain⟨t,rfl⟩:=rv;exact SeqAt.EqAt.tuple_int b t p1 (by omega)
   | str b=>obtain⟨t,rfl⟩:=rv;exact SeqAt.EqAt.tuple_str b t p1 (by omega)
   | @tup es ys b h' F G =>
    cases rv
    obtain⟨dF,r2,p2,_⟩:=I.tuple h'
    have G1:=J.length
    have Wr:=r2.length
    have key:SeqAt.RcAt A s (.ref a) (.ref b) ((acr (min its.toArray.size dF.toArray.size)).all (fun i=>B3 (ds.getD i .cg) (es.getD i .cg)) && its.toArray.size == dF.toArray.size):=by
     refine SeqAt.RcAt.tuples p1 p2 (by omega) fun j j1 j2=>?_
     have j1':j<its.length:=by simpa using j1
     have j2':j<dF.length:=by simpa using j2
     have B:=r j (by omega) (by omega)
     have hy:=G j (by omega) (by omega)
     obtain⟨u1,Z,q1⟩:=J.get (i:=j) (x:=xs[j]) (by simp)
     obtain⟨u2,e2,q2⟩:=r2.get (i:=j) (x:=ys[j]) (by simp)
     have L:its.toArray[j]=u1:=by
      have z:=aaf.mp Z
      simpa using z.2
     have O:dF.toArray[j]=u2:=by
      have z:=aaf.mp e2
      simpa using z.2
     rw [L,O]
     have g1:ds.getD j .cg=ds[j]:=by simp [Gd9,(show j<ds.length by omega)]
     have g2:es.getD j .cg=es[j]:=by simp [Gd9,(show j<es.length by omega)]
     rw [g1,g2]
     refine ih A.in1 ?_ (by show A.units+1+n<cLine;omega) B hy q1 q2
     have z:=jM (ds:=ds) (i:=j) (by omega)
     have a1:Dt.gI ds+1<=n+1:=hd
     omega
    have Y:((acr (min its.toArray.size dF.toArray.size)).all (fun i=>B3 (ds.getD i .cg) (es.getD i .cg)) && its.toArray.size == dF.toArray.size)=B3 (.tup ds) (.tup es):=by
     rw [aaB,aaB,<- G1,<- Wr,<- l,<- F]
     rw [pF]
     rfl
    rw [Y] at key
    by_cases q:a=b
    ·subst q
     have B:xs=ys:=I.rW h h'
     subst B
     have ed:B3 (.tup ds) (.tup es)=true:=vV I rfl (n+1) hd (.tup h l r) (.tup h' F G)
     rw [ed]
     exact ahu _
    ·exact SeqAt.EqAt.of_refs q key
  | cg=>exact ih A (by simp [Dt.deep]) (by omega) .cg h2 ru rv
  | bl a=>exact ih A (by simp [Dt.deep]) (by omega) (.bl a) h2 ru rv
  | int a=>exact ih A (by simp [Dt.deep]) (by omega) (.int a) h2 ru rv
  | str a=>exact ih A (by simp [Dt.deep]) (by omega) (.str a) h2 ru rv
theorem jm.mono {K:aaa} {H H':Hp} (e:∀a xs,bH K H a xs->bH K H' a xs) {d:Dt} {x:V} (h:jm K H d x):jm K H' d x:=by
 induction h with
 | cg=>exact .cg
 | bl b=>exact .bl b
 | int i=>exact .int i
 | str z=>exact .str z
 | tup h l r ih=>exact .tup (e _ _ h) l ih
theorem bH.same {K:aaa} {H H':Hp} (e:ah H H') {a:aay} {xs:List V} (h:bH K H a xs):bH K H' a xs:=by
 rcases h with(h|⟨o,h⟩)|h
 ·exact .inl (.inl (e _ _ h))
 ·exact .inl (.inr ⟨o,e _ _ h⟩)
 ·exact .inr h
theorem jm.same {K:aaa} {H H':Hp} (e:ah H H') {d:Dt} {x:V} (h:jm K H d x):jm K H' d x:=h.mono fun _ _ q=>q.same e
structure Fly (P:abn) (w:abU) (outer:List Env) (H:Hp) (s:aah) (x:aay) (cls:aae) (H':Hp) (s':aah):Prop where
 os:s'.os=s.os
 bare:AllBare s'.gens
 ex:∃(B:Heap) (a0:aae),aip B outer x cls a0 s'.heap/\mm P w H' B/\(∀b o,s.heap.get? b=some o->H b=none->b∉jd outer->B.get? b=some o) /\
  (∀b o,s.heap.get? b=some o->b∉jd outer->∃o',B.get? b=some o')
 slot:∀b o,s.heap.get? b=some o->H b=none->b∈jd outer->∃sl,s'.heap.get? b=some { o with slots:=sl }
 free:∀b o,s.heap.get? b=some o->H b=none->H' b=none
 pj:∀b xs,H b=some (.tup xs)->H' b=some (.tup xs)
 oz:∀b o u,H b=some (.jY o u)->H' b=some (.jY o u)
 pw:∀b ps,H b=some (.Pf ps)->∃more,H' b=some (.Pf (ps++more))
def Gy (P:abn) (w:abU):Kl:=fun outer H s E e s'=>∃(x:aay) (cls:aae) (H':Hp),e=.ref x/\Fly P w outer H s x cls H' s'/\E cls none H'
section
variable {P:abn} {w:abU} {K:aaa} {mg:Str->Option aae} {base:Heap} {N:List Str} {qual:Str} {scope:Scope} {f:aay} {cd:aae} {A:abP} {outer:List Env} {s₀:aah} {H₀:Hp} {E:XK}
noncomputable abbrev jZ (P:abn) (w:abU) (K:aaa) (mg:Str->Option aae) (base:Heap) (N:List Str) (qual:Str) (scope:Scope) (f:aay) (cd:aae) (A:abP) (outer:List Env) (s:aah) (H:Hp) (E:XK):Cx :=
 GP (Gy P w) P w K mg base N qual scope f cd A outer s H E
theorem vX (env:Env) (l:List Env) {a:aay} (h:env.frame=some a):jd (env::l)=a::jd l:=by
 unfold jd
 rw [ad6,h]
theorem Ey {h h':Heap} {l:List Env} {B:Heap} (sm:h.UpToSlots h') (fl:h.FunFrames B l) {b:aay} {o:Obj} (z:b∈jd l) (e:h.get? b=some o):∃sl,h'.get? b=some { o with slots:=sl }:=by
 obtain⟨_,o',q,hd⟩:=fl.mem z
 rw [e] at q
 cases q
 exact sm b o e hd
theorem Ws:Passes (Gy P w) (jZ P w K mg base N qual scope f cd A outer s₀ H₀ E) E:=by
 intro pins σ H s e s' I h
 obtain⟨x,cls,H',rfl,F,Y⟩:=h
 obtain⟨B,a0,fl,hok,kp,th⟩:=F.ex
 have Gx:(jZ P w K mg base N qual scope f cd A outer s₀ H₀ E).env.frame=some s₀.heap.objs.size:=rfl
 have st:jd (jZ P w K mg base N qual scope f cd A outer s₀ H₀ E).stack=s₀.heap.objs.size::jd outer:=vX _ _ Gx
 have old:∀b o,s₀.heap.get? b=some o->b∉jd outer->b∉jd (jZ P w K mg base N qual scope f cd A outer s₀ H₀ E).stack:=fun b o q G hm=>by
  rw [st] at hm
  rcases aaK.mp hm with z|z
  ·exact abj (aaA q) z
  ·exact G z
 refine wpAny_leaves_onW (L:=s₀.heap.objs.size) I.ok.frames Gx fl fun h1 fl1 sm1=>?_
 refine⟨x,cls,H',rfl,⟨F.os.trans I.os,F.bare,⟨B,a0,fl1,hok,fun b o q n G=>?_,fun b o q G=>?_⟩,fun b o q n G=>?_,fun b o q n=>?_,fun b xs q=>F.pj b xs (I.base.pj b xs q),fun b o u q=>F.oz b o u (I.base.oz b o u q),fun b ps q=>?_⟩,Y⟩
 ·exact kp b o (I.base.keep b o q n G (by intro z;cases z)) (I.base.free b o q n (by intro z;cases z)) (old b o q G)
 ·obtain⟨o',J⟩:=I.base.there b o q (by intro z;cases z)
  exact th b o' J (old b o q G)
 ·obtain⟨sl,q1⟩:=I.base.slot b o q n G (by intro z;cases z)
  obtain⟨Jc,q2⟩:=F.slot b _ q1 (I.base.free b o q n (by intro z;cases z)) (by rw [st];exact aam _ G)
  obtain⟨Wt,q3⟩:=Ey (l:=(jZ P w K mg base N qual scope f cd A outer s₀ H₀ E).stack) sm1 fl.2.2.1 (by rw [st];exact aam _ G) q2
  exact⟨Wt,q3⟩
 ·obtain⟨o',J⟩:=I.base.there b o q (by intro z;cases z)
  exact F.free b o' J (I.base.free b o q n (by intro z;cases z))
 ·obtain⟨Z,O⟩:=I.base.pw b ps q
  obtain⟨m2,V⟩:=F.pw b _ O
  exact⟨Z++m2,by rw [V,agK]⟩
theorem Ez {pins:List (aay × Obj)} {σ:St} {H:Hp} {s:aah} {h1:Heap} {e:aay} {cls:aae} {vs:List aae} (I:Inv (jZ P w K mg base N qual scope f cd A outer s₀ H₀ E) pins σ H s) (J:Heap.MadeExcOf s.heap h1 e cls vs) (V:E cls none H) :
  (jZ P w K mg base N qual scope f cd A outer s₀ H₀ E).xe (.ref e) { s with heap:=h1 }:=by
 have Gx:(jZ P w K mg base N qual scope f cd A outer s₀ H₀ E).env.frame=some s₀.heap.objs.size:=rfl
 have st:jd (jZ P w K mg base N qual scope f cd A outer s₀ H₀ E).stack=s₀.heap.objs.size::jd outer:=vX _ _ Gx
 have old:∀b o,s₀.heap.get? b=some o->b∉jd outer->b∉jd (jZ P w K mg base N qual scope f cd A outer s₀ H₀ E).stack:=fun b o q B hm=>by
  rw [st] at hm
  rcases aaK.mp hm with z|z
  ·exact abj (aaA q) z
  ·exact B z
 have M0:∀env∈(jZ P w K mg base N qual scope f cd A outer s₀ H₀ E).stack,∀b,env.frame=some b->b∈jd (jZ P w K mg base N qual scope f cd A outer s₀ H₀ E).stack:=fun env Y b B=>agN.mpr ⟨env,Y,B⟩
 have O:(af5 s.heap (jd (jZ P w K mg base N qual scope f cd A outer s₀ H₀ E).stack)).StaysIn s.heap:=fun b o q=>ah2 _ q
 have get:∀b o,s.heap.get? b=some o->b∉jd (jZ P w K mg base N qual scope f cd A outer s₀ H₀ E).stack->(af5 s.heap (jd (jZ P w K mg base N qual scope f cd A outer s₀ H₀ E).stack)).get? b=some o:=fun b o q B=>ahP _ q B
 refine wpAny_leaves_madeW (base:=af5 s.heap (jd (jZ P w K mg base N qual scope f cd A outer s₀ H₀ E).stack)) (h:=s.heap) (L:=s₀.heap.objs.size) I.ok.frames Gx O (PySem.W.funFrames_hide I.stack M0) J fun h2 t fl ht hn sm=>?_
 have hok:mm P w H (af5 s.heap (jd (jZ P w K mg base N qual scope f cd A outer s₀ H₀ E).stack)):=fun b o q=>by
  refine(I.hok b o q).Ej (fun c u F r=>get c u r fun hm=>?_) (fun _ r=>r) fun _ _ r=>r
  have z:=I.BN c hm
  rcases F with rfl|F
  ·rw [q] at z;cases z
  ·rw [F] at z;cases z
 refine⟨e,cls,H,rfl,⟨I.os,I.bare,⟨_,_,fl,hok,fun b o q n B=>?_,fun b o q B=>?_⟩,fun b o q n B=>?_,fun b o q n=>I.base.free b o q n (by intro z;cases z),I.base.pj,I.base.oz,I.base.pw⟩,V⟩
 ·exact get b o (I.base.keep b o q n B (by intro z;cases z)) (old b o q B)
 ·obtain⟨o',Z⟩:=I.base.there b o q (by intro z;cases z)
  exact⟨o',get b o' Z (old b o q B)⟩
 ·obtain⟨sl,q1⟩:=I.base.slot b o q n B (by intro z;cases z)
  have q2:=J.keeps b _ q1
  have Zh:b∈jd (jZ P w K mg base N qual scope f cd A outer s₀ H₀ E).stack:=by rw [st];exact aam _ B
  obtain⟨_,o3,G,hd⟩:=I.stack.mem Zh
  rw [q1] at G
  cases G
  obtain⟨Wt,q3⟩:=sm b _ q2 hd
  exact⟨Wt,q3⟩
end
theorem TC {K:aaa} {h:Heap} {C:aay} {bmB:List aae} {newId:String} (X:K.In h) (q:agt K C bmB newId=true) :
  ∃(bm:List aae) (Nn:aay) (n1 n2:Str) (bs:List aae) (hd:Bool) (sn:List Str) (sub:List aae) (ab:Bool) (col:Option Bool) (dd:Option aay) (k0 k1 k2 k3 k5:Option aae) (mN:Str->Option aae),
   h.get? C=some (excClassObj n1 n2 C Nn bs bm hd sn sub ab col dd k0 k1 k2 k3 k5 newId)/\h.Ns Nn mN/\mN "__init__"=none/\OwnTail h bmB bm:=by
 unfold agt at q
 split at q
 ·rename_i dd abo sl look
  split at q
  ·rename_i C1 bm k0 k1 k2 k3 nn k5 Wu esl
   simp only [abg,beq_iff_eq,Bool.not_eq_true'] at q
   obtain⟨⟨⟨⟨⟨q1,q2⟩,q3⟩,q4⟩,q5⟩,q6⟩:=q
   subst q1
   subst q2
   obtain⟨B,G,c3,J,L,O,V,Y,Z,z,F⟩:=abo
   dsimp only at Wu q3 q5 q6
   subst Wu
   subst q3
   obtain⟨sll⟩:=sl
   have es:sll=[k0,k1,k2,k3,some (.builtin nn),k5]:=esl
   subst es
   exact⟨bm,J,B,L,G,O,V,Y,Z,z,dd,k0,k1,k2,k3,k5,_,X _ _ look,.of_isNs (PySem.W.isNs_of_in X q5),PySem.W.nsMap_none_of_in X q5 q6,PySem.W.tail_of_in X q4⟩
  ·cases q
 ·cases q
abbrev bmV:List aae:=[.type "ValueError",.type "Exception",.type "BaseException",.type "object"]
abbrev TF:String:="ValueError.__new__"
section
variable {P:abn} {w:abU} {K:aaa} {mg:Str->Option aae} {base:Heap} {N:List Str} {qual:Str} {scope:Scope} {f:aay} {cd:aae} {A:abP} {outer:List Env} {s₀:aah} {H₀:Hp} {E:XK}
def TH (C:aay) (E:XK) (ta:TA):TS:=fun _ σ H=>ta σ H fun vs H1=>vs.length<=aaj/\E (.ref C) none H1
theorem EA {C:aay} {x:Str} {np cpos pos:Pos} {e:Expr} {es:List Expr} {t:TA} (ex:agt K C bmV TF=true) (hm:mg x=some (.ref C)) (G:Gl (jZ P w K mg base N qual scope f cd A outer s₀ H₀ E) x)
  (ha:PA (jZ P w K mg base N qual scope f cd A outer s₀ H₀ E) (e::es) t) (yS:autoParam ((x == ("__debug__":Str))=false) z1._auto_1)
  (F:autoParam (starEach (e::es) (jZ P w K mg base N qual scope f cd A outer s₀ H₀ E).env=(false,eval e (jZ P w K mg base N qual scope f cd A outer s₀ H₀ E).env)::starEach es (jZ P w K mg base N qual scope f cd A outer s₀ H₀ E).env) z0._auto_1)
  (z:autoParam ((backTo cpos (starEach es (jZ P w K mg base N qual scope f cd A outer s₀ H₀ E).env)).any (·.1)=false) z0._auto_1) :
  PS (jZ P w K mg base N qual scope f cd A outer s₀ H₀ E) (.Raise (some (.Call (.Name x np) (e::es) [] cpos)) none pos) (TH C E t):=by
 intro pins s σ H D I h
 obtain⟨bm,Nn,n1,n2,bs,hd,sn,sub,ab,col,dd,k0,k1,k2,k3,k5,mN,gC,gN,gi,gT⟩:=TC I.mod.Px ex
 refine wpAny_Raise_call_subU (C:=C) (nm:=n1) (q:=n2) (N:=Nn) (bs:=bs) (bm:=bm) (hdct:=hd) (sn:=sn) (sub:=sub) (ab:=ab) (col:=col) (dd:=dd) (k0:=k0) (k1:=k1) (k2:=k2) (k3:=k3) (k5:=k5) (mN:=mN)
  agF (by decide +kernel) agF (gT.hasType (by decide +kernel)) (I.ok.hd rfl) (by rw [F];show(false || (backTo cpos (starEach es (jZ P w K mg base N qual scope f cd A outer s₀ H₀ E).env)).any (·.1))=false;rw [z];rfl) gi (nZ I G hm ⟨rfl,?_⟩ yS)
 have B:=ha cpos pins s σ H _ I h
 rw [F] at B ⊢
 refine aeC (thn B fun us s2 ⟨vs,U,I2,r2,hz,q2⟩=>⟨rfl,?_,I2.bk _ _ gC,gN.keeps I2.bk,gT.keeps I2.bk,fun h' L J=>Ez I2 J q2⟩)
 show us.length<=aaj
 rw [<- r2.length]
 exact hz
theorem dz.okE {x qual:Str} {st:Stmt} {f:aay} {fd:abZ} {N ps:List Str} {k:Nat} {sp:Sp} (F:dz K x qual st f fd) (S:aB N ps (au st)) (len:∀vs H Q E,sp vs H Q E->vs.length=ps.length)
  (Ep:∀(cP:aae) (A:abP) (outer:List Env) (s:aah) (H:Hp) (vs:List V) (Q:VK) (E:XK),dy k (A.deeper (envOfC qual (au st) s.heap.objs.size f cP))->sp vs H Q E ->
   ∃t,AG (jZ P w K mg base N qual (au st) f cP A outer s H E) (ij st) t/\t { nx:=fun _ H'=>Q .cg H',rt:=Q } (start N vs) H):aX P w K mg base (Gy P w) (k+1) f fd ps sp:=by
 obtain⟨oc,od,kV,doc,pm,an,cP,ct,PN,rfl,lk,q⟩:=F.ex
 refine RX lk q S len fun A outer s H vs Q E hr Kn=>?_
 exact Ep cP A outer s H vs Q E hr Kn
theorem M1:PassesOwn (model P w) (jZ P w K mg base N qual scope f cd A outer s₀ H₀ E).A (jZ P w K mg base N qual scope f cd A outer s₀ H₀ E).env (jZ P w K mg base N qual scope f cd A outer s₀ H₀ E).xe:=by
 intro e s' h
 have z:=PassesOwn.leaving (M:=model P w) (A:=(jZ P w K mg base N qual scope f cd A outer s₀ H₀ E).A) (env:=(jZ P w K mg base N qual scope f cd A outer s₀ H₀ E).env) (Q₁:=fun e vR=>Gy P w outer H₀ s₀ E e vR) (E₁:=fun q vR=>Gy P w outer H₀ s₀ E q vR)
 exact z e s' h
end
theorem Inv.land {X:Cx} {pins iD:List (aay × Obj)} {σ:St} {H H':Hp} {s s':aah} {Z:Heap} {x:aay} {cls:aae} (I:Inv X iD σ H s) (hp:∀p∈pins,p∈X.pn++iD) (a1:X.ex=[]) (Py:∀y,X.fn y=true)
  (vM:X.stack=X.env::X.outer/\X.env.frame=some X.env.locals) (F:Fly X.prog X.w X.stack H s x cls H' s') {B:Heap} {a0:aae} (fl:aip B X.stack x cls a0 s'.heap) (hok:mm X.prog X.w H' B)
  (kp:∀b o,s.heap.get? b=some o->H b=none->b∉jd X.stack->B.get? b=some o) (th:∀b o,s.heap.get? b=some o->b∉jd X.stack->∃o',B.get? b=some o') (sm:s'.heap.UpToSlots Z) (Y:B.StaysIn Z) :
  Inv X pins σ H' { s' with heap:=Z }:=by
 have P6:jd X.stack=X.env.locals::X.fs:=by rw [vM.1];exact vX _ _ vM.2
 have Zi:∀b:aay,b∉X.ex:=fun b z=>by rw [a1] at z;cases z
 have Zj:∀b,b≠X.env.locals->b∉X.fs->b∉jd X.stack:=fun b h1 h2 hm=>by
  rw [P6] at hm
  rcases aaK.mp hm with z|z
  ·exact h1 z
  ·exact h2 z
 have VT:∀b o,X.s₀.heap.get? b=some o->b≠X.env.locals:=fun b o e=>abj (aa6 (aaA e) I.ok.above)
 have cnf:∀y c,X.env.cells.lookup y=some c->c∉X.fs:=fun y c e hm=>by
  obtain⟨_,o,L,_⟩:=I.ok.qd.mem hm
  exact absurd (aa6 (aaA L) (I.ok.SY y c (Py y) e)) (adJ _)
 have cellK:∀y c v,X.env.cells.lookup y=some c->s.heap.IsCell c v->Z.IsCell c v:=fun y c v e ⟨o,L,hd⟩=>⟨o,Y _ _ (kp c o L (I.iC y c e) (Zj c (I.Kb y c e) (cnf y c e))),hd⟩
 refine⟨I.ok,F.os.trans I.os,F.bare,⟨fun b o e n O q=>?_,fun b o e n O q=>?_,fun b o e n q=>?_,fun b o e q=>?_,fun b xs e=>F.pj b xs (I.base.pj b xs e),fun b o u e=>F.oz b o u (I.base.oz b o u e),fun b ps e=>?_⟩,?_,fun y c e=>?_,?_,fun y c e=>?_,fun p a2=>?_,hok.kept Y,I.len⟩
 ·exact Y _ _ (kp b o (I.base.keep b o e n O q) (I.base.free b o e n q) (Zj b (VT b o e) O))
 ·obtain⟨sl,G⟩:=I.base.slot b o e n O q
  have hm:b∈jd X.stack:=by rw [P6];exact aam _ O
  obtain⟨Jc,J⟩:=F.slot b _ G (I.base.free b o e n q) hm
  obtain⟨Wt,V⟩:=Ey sm fl.2.2.1 hm J
  exact⟨Wt,V⟩
 ·obtain⟨o',G⟩:=I.base.there b o e q
  exact F.free b o' G (I.base.free b o e n q)
 ·obtain⟨o',G⟩:=I.base.there b o e q
  by_cases O:b∈X.fs
  ·have hm:b∈jd X.stack:=by rw [P6];exact aam _ O
   obtain⟨_,o2,J,hd⟩:=fl.2.2.1.mem hm
   obtain⟨sl,V⟩:=sm b o2 J hd
   exact⟨_,V⟩
  ·obtain⟨o2,J⟩:=th b o' G (Zj b (VT b o e) O)
   exact⟨o2,Y _ _ J⟩
 ·obtain⟨m1,G⟩:=I.base.pw b ps e
  obtain⟨m2,J⟩:=F.pw b _ G
  exact⟨m1++m2,by rw [J,agK]⟩
 ·obtain⟨m,hn,hl⟩:=I.loc
  have hm:X.env.locals∈jd X.stack:=by rw [P6];exact aas
  have Ec:s'.heap.Ns X.env.locals m:=by
   obtain⟨o,es,ep,L,r⟩:=hn
   obtain⟨sl,e⟩:=F.slot _ o L I.free hm
   exact⟨_,es,ep,e,r⟩
  refine⟨m,sm.ns Ec,fun i y v G J V=>?_⟩
  obtain⟨u,r,l⟩:=hl i y v G J V
  refine⟨u,r,?_⟩
  rcases l with l|⟨k,c,e,z⟩
  ·exact .inl l
  ·exact .inr ⟨k,c,e,cellK y c _ e z⟩
 ·obtain⟨v,z⟩:=I.cell y c e
  exact⟨v,cellK y c v e z⟩
 ·obtain⟨m,⟨o,_,_,L,_⟩,_⟩:=I.loc
  exact F.free _ o L I.free
 ·obtain⟨v,o,L,_⟩:=I.cell y c e
  exact F.free c o L (I.iC y c e)
 ·have abr:p∈X.pn++iD:=(aaq.mp a2).elim (fun z=>aax _ z) (hp p)
  obtain⟨e,n,ne,nf,d⟩:=I.pin p abr
  exact⟨Y _ _ (kp p.1 p.2 e n (Zj p.1 ne nf)),F.free p.1 p.2 e n,ne,nf,d⟩
theorem Cx.Ok.cx {X:Cx} (ok:X.Ok) {A':abP} {cm:Bool} {pn:List (aay × Obj)} {xe:aae->aah->Prop} (q:A'.frames=X.A.frames) (z:cm=true->A'.handled=none) :
  Cx.Ok { X with A:=A',calm:=cm,pn:=pn,xe:=xe } :=
 ⟨ok.mod,ok.kind,ok.glob,ok.blt,ok.above,ok.inj,ok.has,ok.SY,z,q.trans ok.frames,ok.Vm,ok.exf,ok.bs,ok.Pg,ok.Ka,ok.Mz,ok.qd,ok.Ph⟩
theorem Inv.cx {X:Cx} {pins iD:List (aay × Obj)} {σ:St} {H:Hp} {s:aah} (I:Inv X pins σ H s) {A':abP} {cm:Bool} {pn:List (aay × Obj)} {xe:aae->aah->Prop} (z:A'.frames=X.A.frames) (B:cm=true->A'.handled=none)
  (F:∀p∈pn++iD,p∈X.pn++pins):Inv { X with A:=A',calm:=cm,pn:=pn,xe:=xe } iD σ H s :=
 ⟨I.ok.cx z B,I.os,I.bare,I.base,I.loc,I.cell,I.free,I.iC,fun p q=>I.pin p (F p q),I.hok,I.len⟩
noncomputable abbrev G2 (X:Cx) (pn:List (aay × Obj)):Cx:={ X with pn:=X.pn++pn }
noncomputable abbrev qp (X:Cx) (pn:List (aay × Obj)) (R:aae->St->Hp->Prop):Cx :=
 { X with pn:=X.pn++pn,xe:=fun e s'=>∃(iD:List (aay × Obj)) (σ:St) (H:Hp) (s:aah) (H':Hp) (x:aay) (cls:aae),Inv (G2 X pn) iD σ H s/\e=.ref x/\Fly X.prog X.w X.stack H s x cls H' s'/\R cls σ H' }
noncomputable abbrev Jh (X:Cx) (x:aay):Cx:={ X with A:=X.A.mark (some (.ref x)),calm:=false,xe:=fun _ _=>False }
section
variable {X:Cx} {k:Nat} {f C:aay} {fd:abZ} {ps:List Str} {sp:Sp} {pD:List V} {ds:List aae} {x:Str} {p pos:Pos} {e:Expr} {es:List Expr} {t:TA} {pn:List (aay × Obj)} {R:aae->St->Hp->Prop}
def M3 (sp:Sp) (pD:List V) (R:aae->St->Hp->Prop) (t:TA):TE:=fun σ H Q=>t σ H fun vs H1=>sp (vs++pD) H1 Q fun cls _ H'=>R cls σ H'
theorem P7 {pins:List (aay × Obj)} {σ:St} {H:Hp} {s:aah} {Q:VK} {us:List aae} {vs:List V} (F:aX X.prog X.w X.K X.mg X.base (Gy X.prog X.w) k f fd ps sp) (hr:dy k X.A) (L:Binds X.K fd ps ds) (hd:Vals pD ds)
  (I:Inv (qp X pn R) pins σ H s) (r:Vals vs us) (h:sp (vs++pD) H Q fun cls _ H'=>R cls σ H'):aby (model X.prog X.w) X.A (call (.ref f) us) (EP (qp X pn R) pins σ Q) (qp X pn R).xe s:=by
 have r2:Vals (vs++pD) (us++ds):=r.append hd
 have hl:(us++ds).length=ps.length:=by rw [<- r2.length];exact F.len _ _ _ _ h
 refine wpAny_call (codeAny_mono (F.run X.A X.stack s H ⟨us,[]⟩ (us++ds) (vs++pD) Q _ hr I.Td (L s us I.oE hl) r2 h) fun r s' z=>?_)
 cases r with
 | error e =>
  obtain⟨x,cls,H',G,B,J⟩:=z
  exact⟨pins,σ,H,s,H',x,cls,I.cx rfl I.ok.hd fun _ q=>q,G,B,J⟩
 | ok fl =>
  cases fl with
  | ret u=>exact I.after z
  | next=>exact ac8 z
  | brk=>exact ac8 z
  | cont=>exact ac8 z
theorem M4 (F:aX X.prog X.w X.K X.mg X.base (Gy X.prog X.w) k f fd ps sp) (hr:dy k X.A) (J:Gl X x) (hm:X.mg x=some (.ref f)) (hk:adM X.K (.ref f)=true) (B:Binds X.K fd ps ds) (hd:Vals pD ds)
  (ha:PA (qp X pn R) (e::es) t) (yS:autoParam ((x == ("__debug__":Str))=false) z1._auto_1) (G:autoParam (starEach (e::es) X.env=(false,eval e X.env)::starEach es X.env) z0._auto_1) (z:autoParam ((backTo pos (starEach es X.env)).any (·.1)=false) z0._auto_1) :
  PE (qp X pn R) (.Call (.Name x p) (e::es) [] pos) (M3 sp pD R t):=by
 intro pins s σ H Q I h
 refine wpAny_Call_Name_kw (nZ I J hm ?_ yS)
 refine aei (h₀:=X.base) I.ok.mod.Px hk (thn (ha pos pins s σ H _ I h) fun us s1 ⟨vs,H1,I1,r,q⟩=>⟨I1.oE,?_⟩) G z
 exact P7 F hr B hd I1 r q
end
theorem cL.has {P:abn} {w:abU} {H:Hp} {h:Heap} {a:aay} {o:HO} (x:cL P w H h a o):∃u,h.get? a=some u:=by
 cases o with
 | lst xs=>obtain⟨_,_,_,_,e⟩:=x;exact⟨_,e⟩
 | tup xs=>obtain⟨_,_,_,o,e,_⟩:=x;exact⟨_,e⟩
 | dK kvs=>obtain⟨_,_,_,_,o,_,_,e,_⟩:=x;exact⟨_,e⟩
 | dT kvs=>obtain⟨_,_,_,_,o,_,_,e,_⟩:=x;exact⟨_,e⟩
 | set S n=>obtain⟨o,_,_,_,e,_⟩:=x;exact⟨_,e⟩
 | ins C dx fs=>obtain⟨_,_,_,e,_⟩:=x;exact⟨_,e⟩
 | own y=>obtain⟨_,e⟩:=x;exact⟨_,e⟩
 | xd fs=>obtain⟨_,⟨_,_,_,e,_⟩,_⟩:=x;exact⟨_,e⟩
 | YZ lo hi=>obtain⟨_,_,_,e⟩:=x;exact⟨_,e⟩
 | jY ob u=>obtain⟨e,_⟩:=x;exact⟨_,e⟩
 | Pf ps=>exact⟨_,(show h.get? a=some _ from x)⟩
 | met f y=>exact⟨_,(show h.get? a=some _ from x)⟩
 | ext φ=>obtain⟨_,⟨_,e⟩,_⟩:=x;exact⟨_,e⟩
structure Lit (X:Cx) (pins:List (aay × Obj)) (σ:St) (H:Hp) (x:aay) (cls:aae) (B:Heap) (a0:aae) (s:aah):Prop where
 fl:aip B X.stack x cls a0 s.heap
 land:∀h',s.heap.UpToSlots h'->B.StaysIn h'->Inv X pins σ H { s with heap:=h' }
 fr:H x=none
theorem SP.cx {X B:Cx} {pins iD:List (aay × Obj)} {D:Ends} {f:Flow} {s:aah} (h:SP X pins D f s) (z:∀σ H,Inv X pins σ H s->Inv B iD σ H s):SP B iD D f s:=by
 cases f with
 | next=>obtain⟨σ,H,I,q⟩:=h;exact⟨σ,H,z _ _ I,q⟩
 | brk=>obtain⟨σ,H,I,q⟩:=h;exact⟨σ,H,z _ _ I,q⟩
 | cont=>obtain⟨σ,H,I,q⟩:=h;exact⟨σ,H,z _ _ I,q⟩
 | ret u=>obtain⟨v,σ,H,I,r,q⟩:=h;exact⟨v,σ,H,z _ _ I,r,q⟩
def dn (P:abn) (w:abU) (K:aaa) (mg:Str->Option aae) (base:Heap) (x:Str) (k:Nat) (ps:List Str) (sp:Sp):Prop :=
 ∃f fd,aX P w K mg base dS k f fd ps sp/\Binds K fd ps []/\adM K (.ref f)=true/\mg x=some (.ref f)
def P8 (P:abn) (w:abU) (K:aaa) (mg:Str->Option aae) (base:Heap) (x:Str) (C:aay) (k:Nat) (ps:List Str) (sp:Sp):Prop :=
 ∃f fd,Mk K C f/\aX P w K mg base dS k f fd ps sp/\Binds K fd ps []/\mg x=some (.ref C)
def Met (P:abn) (w:abU) (K:aaa) (mg:Str->Option aae) (base:Heap) (C:aay) (m:Str) (k:Nat) (ps:List Str) (sp:Sp):Prop :=
 ∃f fd,Em K C/\Meth K C m f/\aX P w K mg base dS k f fd ps sp/\Binds K fd ps []
section
variable {X:Cx} {k:Nat} {C:aay} {ps:List Str} {sp:Sp} {x m:Str} {p pos apos:Pos} {e o:Expr} {es:List Expr} {ta:TE} {t:TA}
theorem ao (c:dn X.prog X.w X.K X.mg X.base x k ps sp) (hr:dy k X.A) (B:Gl X x) (ha:PA X (e::es) t) (yS:autoParam ((x == ("__debug__":Str))=false) z1._auto_1) (z:autoParam (starEach (e::es) X.env=(false,eval e X.env)::starEach es X.env) z0._auto_1) (q:autoParam ((backTo pos (starEach es X.env)).any (·.1)=false) z0._auto_1) :
  PE X (.Call (.Name x p) (e::es) [] pos) (MM sp [] E0 t):=by
 obtain⟨f,fd,F,b,kp,mg⟩:=c
 exact Jb F hr B mg kp b .nil Eu ha yS z q
theorem qr (c:P8 X.prog X.w X.K X.mg X.base x C k ps sp) (hr:dy (k+1) X.A) (B:Gl X x) (ha:PA X (e::es) t) (yS:autoParam ((x == ("__debug__":Str))=false) z1._auto_1) (z:autoParam (starEach (e::es) X.env=(false,eval e X.env)::starEach es X.env) z0._auto_1) (q:autoParam ((backTo pos (starEach es X.env)).any (·.1)=false) z0._auto_1) :
  PE X (.Call (.Name x p) (e::es) [] pos) (RV C sp [] E0 t):=by
 obtain⟨f,fd,M,F,b,mg⟩:=c
 exact PM M F hr B mg b .nil Eu ha yS z q
theorem Wv {pl:Sem Bool} (z:PE X o ta) (c:Met X.prog X.w X.K X.mg X.base C m k ps sp) (hr:dy k X.A) (ha:PA X (e::es) t)
  (vM:autoParam (starEach (e::es) X.env=(false,eval e X.env)::starEach es X.env) z0._auto_1) (q:autoParam ((backTo pos (starEach es X.env)).any (·.1)=false) z0._auto_1)
  (B:autoParam (eval (.Call (.Attribute o m apos) (e::es) [] pos) X.env=(do
   let ov <- eval o X.env
   standAt apos.atName
   let (f,first) <- holding [ov] (getMethod ov m pl)
   callWith pos f first (backTo pos (starEach (e::es) X.env)) (backToKw pos (keywordEach [] X.env)))) z0._auto_1) :
  PE X (.Call (.Attribute o m apos) (e::es) [] pos) (Ja C m sp [] E0 ta t):=by
 obtain⟨f,fd,cl,M,F,b⟩:=c
 exact PL z cl M F hr b .nil Eu ha vM q B
theorem AS {pl:Sem Bool} (q:PE X o ta) (c:Met X.prog X.w X.K X.mg X.base C m k ps sp) (hr:dy k X.A)
  (z:autoParam (eval (.Call (.Attribute o m apos) [] [] pos) X.env=(do
   let ov <- eval o X.env
   standAt apos.atName
   let (f,first) <- holding [ov] (getMethod ov m pl)
   callWith pos f first (backTo pos (starEach [] X.env)) (backToKw pos (keywordEach [] X.env)))) z0._auto_1) :
  PE X (.Call (.Attribute o m apos) [] [] pos) (Ja C m sp [] E0 ta GN):=by
 obtain⟨f,fd,cl,M,F,b⟩:=c
 exact MN q cl M F hr b .nil Eu z
def TJ (X:Cx) (m:Str) (k:Nat) (ta:TE) (t:TA):TE:=fun σ H Q=>ta σ H fun x H1=>∃a C dx fs ps sp,x=.ref a/\H1 a=some (.ins C dx fs)/\fs.lookup m=none /\
 Met X.prog X.w X.K X.mg X.base C m k ps sp/\t σ H1 fun vs U=>sp (x::vs) U Q E0
theorem M5 {pl:Sem Bool} (G:PE X o ta) (hr:dy k X.A) (ha:PA X (e::es) t)
  (vM:autoParam (starEach (e::es) X.env=(false,eval e X.env)::starEach es X.env) z0._auto_1) (z:autoParam ((backTo pos (starEach es X.env)).any (·.1)=false) z0._auto_1)
  (J:autoParam (eval (.Call (.Attribute o m apos) (e::es) [] pos) X.env=(do
   let ov <- eval o X.env
   standAt apos.atName
   let (f,first) <- holding [ov] (getMethod ov m pl)
   callWith pos f first (backTo pos (starEach (e::es) X.env)) (backToKw pos (keywordEach [] X.env)))) z0._auto_1) :
  PE X (.Call (.Attribute o m apos) (e::es) [] pos) (TJ X m k ta t):=by
 intro pins s σ H Q I h
 refine aen (pl:=pl) (thn (G pins s σ H _ I h) fun u s1 Zq=>?_) J
 obtain⟨x,H1,I1,rx,a,C,dx,fs,ps,sp,ex,B,l,⟨f,fd,cl,M,F,b⟩,q⟩:=Zq
 subst ex
 obtain rfl:u=abF a:=rx
 refine j6 I1 B cl M l ?_
 refine aei (first:=[.ref a]) (h₀:=X.base) I.ok.mod.Px M.kp (thn (ha pos pins s1 σ H1 _ I1 q) fun us s2 ⟨vs,U,I2,r,q2⟩=>⟨I2.oE,?_⟩) vM z
 exact BV (us:=.ref a::us) (vs:=.ref a::vs) F hr b .nil Eu I2 (.cons rfl r) (by rw [abI];exact q2)
theorem mw {K:aaa} {T C:aay} {b:Bool} (z:ac7 K C=true) (B:adj K (.ref C)=some (.type "type")) (hs:ah4 K C (.ref C)=some true) (hm:ah4 K T (.ref C)=some b) :
  acj K (.ref T) (.ref C)=some b:=by
 unfold acj
 split
 ·rename_i h
  have e:abF T=abF C:=beq_iff_eq.mp h
  injection e with e
  subst e
  rw [hs] at hm
  exact hm
 ·unfold PySem.W.kitCls
  have q:(PySem.W.clsIn K C).isSome=true:=z
  simp only [q,B,beq_self_eq_true,Bool.and_self,if_true]
  exact hm
end
section
variable {X:Cx}
theorem AU:∀{l:List (Str × Tok)} {zs:List Str},l.map (·.1)=zs->Vals (zs.map V.str) (strValues l)
 | [],_,e=>by subst e;exact .nil
 | p::r,_,e=>by
  subst e
  exact .cons ⟨p.2,rfl⟩ (AU rfl)
def TK:V->List V->Hp->VK->Prop:=fun x vs H Q=>∃z y,x=.str z/\vs=[.str y]/\(y.length == 0)=false/\z.length<=aaj/\(af9 z y).length<=aaj/\∀l,H l=none->Q (.ref l) (upd H l (.lst ((af9 z y).map V.str)))
open Builtin Builtin.Str in
theorem M6 {prog:abn} {w:abU} {A:abP} {E:aae->aah->Prop} {s:aah} {x y:Str} {t u:Tok} {Q:aae->aah->Prop} (hy:(y.length == 0)=false) (hsz:x.length<=aaj) (hsz2:(af9 x y).length<=aaj)
  (h:∀l k,l.map (·.1)=af9 x y->Q (.ref s.heap.objs.size) { s with heap:=s.heap.push { cls:=.type "list",data:=.seq (strValues l).toArray },toks:=k }) :
  aby (model prog w) A (call (.builtin "str.split") [.str x t,.str y u]) Q E s:=by
 unfold af9 at hsz2 h
 cases h1:(decide (x.length<y.length) || decide (strKind x<strKind y))
 ·rw [if_neg (ne_true_of_eq_false h1)] at hsz2 h
  cases hf:(occurrences x y 0 x.length (x.length+1)).isEmpty
  ·rw [if_neg (ne_true_of_eq_false hf)] at hsz2 h
   refine call_meets aeg (typeIs_str _ _ _) aga (af1 _ _) (meets_str_split_sep x y t u h1 hy hf hsz hsz2) ?_
   show wants Q E _ { s with toks:=_,heap:=s.heap.push { cls:=.type "list",data:=.seq (strsFrom s.toks (partsBetween x (occurrences x y 0 x.length (x.length+1)) y.length)).toArray } }
   rw [strsFrom_eq]
   exact h (numbered s.toks _) _ (numbered_texts _ _)
  ·rw [if_pos hf] at h
   exact call_meets aeg (typeIs_str _ _ _) aga (af1 _ _) (meets_str_split_not_found x y t u h1 hy hf) (h [(x,t)] s.toks rfl)
 ·rw [if_pos h1] at h
  exact call_meets aeg (typeIs_str _ _ _) aga (af1 _ _) (meets_str_split_cannot_occur x y t u h1) (h [(x,t)] s.toks rfl)
theorem M7:PZ X "str.split" TK:=by
 intro pins s σ H x vs v us Q I rx rv h
 obtain⟨z,y,rfl,rfl,F,h1,h2,q⟩:=h
 obtain⟨t,rfl⟩:=rx
 obtain⟨u,rfl,t',rfl⟩:=vals1 rv
 refine M6 F h1 h2 fun l k e=>?_
 have B:H s.heap.objs.size=none:=I.hok.fresh (aar _)
 refine⟨.ref s.heap.objs.size,upd H s.heap.objs.size (.lst ((af9 z y).map V.str)),I.laid (t':=k) (fun b u e=>aag _ e) (aar _) ?_,rfl,q _ B⟩
 exact⟨by rw [Lm9];exact h2,strValues l,0,AU e,aa0 _ rfl⟩
def TL:V->List V->Hp->VK->Prop:=fun x vs H Q=>∃z y,x=.str z/\vs=[.str y]/\z.length<=aaj/\Q (.str (ahL z y)) H
theorem M8:PZ X "str.strip" TL:=by
 intro pins s σ H x vs v us Q I rx rv h
 obtain⟨z,y,rfl,rfl,h1,q⟩:=h
 obtain⟨t,rfl⟩:=rx
 obtain⟨u,rfl,t',rfl⟩:=vals1 rv
 exact SC.stripChars (fun B k=>⟨.str _,H,I.tok _,⟨B,rfl⟩,q⟩) h1
theorem yW:fD X (.type "int") (fun xs H Q=>∃z n,xs=[.str z]/\PySem.intText? z=some n/\z.length<=640/\Q (.int n) H):=by
 intro pins s σ H xs us Q I r h
 obtain⟨z,n,rfl,hn,hl,q⟩:=h
 obtain⟨u,rfl,t,rfl⟩:=vals1 r
 exact PySem.W.KIN.call_text hn hl ⟨.int n,H,I.tok _,⟨_,rfl⟩,q⟩
end
theorem sd {M:Model} {A:abP} {E:aae->aah->Prop} {s:aah} {β:Type} {n:Nat} (f:Nat->β->Sem (ForInStep β)) (I:Nat->β->aah->Prop) (Q:β->aah->Prop) {b:β}
  (turn:∀i b s',i<n->I i b s'->aby M A (f i b) (fun r vR=>match r with|.done B=>Q B vR|.yield B=>I (i+1) B vR) E s')
  (fin:∀b s',I n b s'->Q b s') (h:I 0 b s):aby M A (forIn [0:n] b f) Q E s:=by
 rw [Std.Legacy.Range.forIn_eq_forIn_range']
 have hsz:([0:n]:ais).size=n:=by simp [Std.Legacy.Range.size]
 show aby M A (forIn (List.range' 0 ([0:n]:ais).size 1) b f) Q E s
 rw [hsz]
 refine wpAny_forIn_list f (fun a9 b s'=>∃i,i<=n/\a9=List.range' i (n - i) 1/\I i b s') Q ?_ ?_ _ _ ⟨0,ab4 _,by simp,h⟩
 ·rintro x a9 b s' ⟨i,hi,z,F⟩
  have mi:i<n:=by
   cases e:n - i with
   | zero=>rw [e] at z;cases z
   | succ m=>omega
  have G:n - i=(n - (i+1))+1:=by omega
  rw [G,List.range'_succ] at z
  injection z with J L
  subst J
  refine wpAny_mono (turn x b s' mi F) (fun r vR q=>?_) fun _ _ q=>q
  cases r with
  | done B=>exact q
  | yield B=>exact⟨x+1,mi,L,q⟩
 ·rintro b s' ⟨i,hi,z,F⟩
  have:i=n:=by
   cases e:n - i with
   | zero=>omega
   | succ m=>rw [e,List.range'_succ] at z;cases z
  subst this
  exact fin b s' F
open SeqAt in
theorem yX (l:aay) (items:Array aae) (n:Nat) (dd:Option aay) (sl:Array (Option aae)) (x:aae) (e:aae->Bool) (j:Nat) (hj:j<items.size) (hit:e items[j]=true) (Ml:∀m (hm:m<items.size),m<j->e items[m]=false) :
  Meets (Builtin.«tuple.index» ⟨[.ref l,x],[]⟩)
   (fun A R s=>s.heap.get? l=some { cls:=.type "tuple",dict:=dd,data:=.seq items n,slots:=sl }/\(∀y,y∈items->EqAt A.in1 s y x (e y))/\R (.ok (.ret (.int (j:Nat) s.toks))) { s with toks:=s.toks+1 }) :=
 .of_wp fun prog w A R s h=>by
  obtain⟨hp,g,d,tk,os⟩:=s;obtain⟨hl,he,h⟩:=h
  wp_walk using wpAny_loadPart' hl,sd _ (fun i b s'=>b.1=none/\s'=⟨hp,g,d,tk,os⟩/\i<=j) _
  case turn =>
   rintro i b s' hi ⟨hb,rfl,Ji⟩
   have hi':i<items.size:=by omega
   rw [Array.getElem?_eq_getElem hi']
   refine aac (he items[i] (Array.getElem_mem hi') prog w _ _ ?_)
   by_cases hy:i=j
   ·subst hy
    rw [hit]
    wp_walk
    exact⟨_,rfl,h⟩
   ·rw [Ml i hi' (by omega)]
    wp_walk
    exact⟨rfl,rfl,by omega⟩
  case fin =>
   rintro⟨b1,b2⟩ s' ⟨hb,rfl,Ji⟩
   omega
  case h =>
   exact⟨rfl,rfl,ab4 _⟩
theorem P9 {tt:TT} {te:TE} {bo:List Nat} {σ:St} {H1:Hp} {Q:VK} {K:aaa} {a:aay} {xs:List V} {D:aay} (hn:xs.length<aaj) (AR:H1 D=none) (hl:aC K H1 a xs) (kp:V->Bool) (f:V->V)
  (B:∀x H' R,x∈xs->ah H1 H'->(∀jc,ah H' jc->R (kp x) jc)->tt (cQ σ (some x) bo) H' R)
  (z:∀x H' R,x∈xs->kp x=true->ah H1 H'->(∀jc,ah H' jc->R (f x) jc)->te (cQ σ (some x) bo) H' R)
  (hd:∀H',ah H1 H'->H' D=some (.lst ((xs.filter kp).map f))->Q (.ref D) H'):lY tt te bo σ Q (Mj K a) H1 D:=by
 refine og (K:=K) (a:=a) (xs:=xs) hn (fun i ys H'=>ah H1 H'/\H' D=some (.lst ys)/\ys=((xs.take i).filter kp).map f) ⟨fun b o e=>by rw [aD (aO e AR)];exact e,aj,rfl⟩
  (fun i ys H' p=>p.1.seq hl) (fun i ys H' p=>⟨p.2.1,?_⟩) (fun i ys H' hi p=>?_) (fun ys H' p=>?_)
 ·rw [p.2.2,Lm9]
  refine ab0 (acw _ _) ?_
  rw [aat]
  omega
 ·have F:xs.getD i .cg=xs[i]:=by rw [Gd9,Ge9 hi];rfl
  rw [F]
  have hm:xs[i]∈xs:=aan hi
  have step:∀b,kp xs[i]=b->((xs.take (i+1)).filter kp).map f=((xs.take i).filter kp).map f++(if b=true then [f xs[i]] else []):=fun b q=>by
   rw [aao hi,agP,aau]
   cases b with
   | true=>rw [if_pos rfl];simp [q]
   | false=>rw [if_neg (by decide)];simp [q]
  refine B _ _ _ hm p.1 fun U s2=>?_
  cases q:kp xs[i] with
  | true =>
   refine dP ?_
   refine z _ _ _ hm q (ah.trans p.1 s2) fun H3 s3=>?_
   refine⟨s3 _ _ (s2 _ _ p.2.1),fun b o e=>?_,aj,?_⟩
   ·rw [aD (aO e AR)]
    exact s3 _ _ (s2 _ _ (p.1 _ _ e))
   ·rw [step true q,if_pos rfl,p.2.2]
  | false =>
   refine bw ⟨ah.trans p.1 s2,s2 _ _ p.2.1,?_⟩
   rw [step false q,if_neg (by decide),abI]
   exact p.2.2
 ·rw [p.2.2,abM] at p
  exact hd H' p.1 p.2.1
end L2
namespace HT
open PySem PySem.Spec PyProof.Rows
section
variable {prog:abn} {w:abU} {A:abP} {E:aae->aah->Prop} {s:aah}
theorem qt {t sl:aay} {items:Array aae} {vl vu:aae} {lo hi:Option Int} {Q:aae->aah->Prop} (q:IsTup s.heap t items) (hs:s.heap.IsSliceOf sl vl vu .none) (pl:IsPart vl lo) (B:IsPart vu hi)
  (z:eM items.size 0 lo=0/\eM items.size items.size hi=items.size) (h:Q (.ref t) s):aby (model prog w) A (getItem (.ref t) (.ref sl)) Q E s:=by
 obtain⟨os,PR,Zb,Wh⟩:=id hs
 have Zc:s.TypeIs (.ref sl) "slice":=⟨os,PR,Zb⟩
 unfold getItem
 try with_reducible refine wpAny_holding ?_
 first|refine aac (aav ?_)|skip
 refine aac (wpAny_sequenceKey q.typeIs (by decide) ?_)
 refine aac (wpAny_callSpecial?_slot (name:=aad "__getitem__") q.typeIs ab7
  (wpAny_call_entry ab7 q.typeIs entry_tuple_getitem ?_ (args_tuple_getitem _ _)))
 show aby _ _ (agE (.ref t) >>= _) _ _ s
 refine aac (tupleItemsOf_ q ?_)
 refine aac (wpAny_typeOf Zc ?_)
 rw [if_pos (by decide)]
 refine aac (jJ hs pl B ?_)
 have abt:(((eM items.size 0 lo:Nat):Int) == 0 && (1:Int) == 1 && (eM items.size items.size hi - eM items.size 0 lo) == items.size)=true:=by
  rw [z.1,z.2]
  simp
 show aby _ _ (if (((eM items.size 0 lo:Nat):Int) == 0 && (1:Int) == 1 && (eM items.size items.size hi - eM items.size 0 lo) == items.size)=true then _ else _) _ _ s
 rw [if_pos abt]
 unfold Builtin.Tuple.tupleIsExact
 refine aac (aac (wpAny_typeOf q.typeIs (aav ?_)))
 rw [if_pos (by decide)]
 refine aac (wpAny_rule ?_)
 first
  | exact aav ⟨_,rfl,aav h⟩
  | exact aac (aav (aav ⟨_,rfl,aav h⟩))
end
end HT
namespace L2
open PySem PySem.Spec PyProof.Rows
section
variable {X:Cx}
def abu (K:aaa):V->Option Int->Option Int->Hp->VK->Prop:=fun x lo hi H Q=>∃a xs,x=.ref a/\bH K H a xs/\∀p H',ah H H'->bH K H' p (fI xs lo hi)->Q (.ref p) H'
theorem Jj:Wj X (abu X.K):=by
 intro pins s σ H x v vl vu lo hi sl Q I rx hs pl G h
 obtain⟨a,xs,rfl,B,q⟩:=h
 by_cases z:HT.eM xs.length 0 lo=0/\HT.eM xs.length xs.length hi=xs.length
 ·cases rx
  obtain⟨its,r,F,hz⟩:=I.tuple B
  have hlen:its.toArray.size=xs.length:=by rw [aaB];exact r.length.symm
  refine⟨"tuple",_,ab7.lookup,F.typeIs,?_⟩
  refine HT.qt F hs pl G (by rw [hlen];exact z) ⟨.ref a,H,I,rfl,q a H (ah.refl H) ?_⟩
  unfold fI
  rw [z.1,z.2,agV,Nat.sub_zero,abM]
  exact B
 ·exact Tg pins s σ H (.ref a) v vl vu lo hi sl Q I rx hs pl G ⟨a,xs,rfl,B,z,fun p J=>q p _ (fun b o e=>by rw [aD (aO e J)];exact e) (bH.of aj)⟩
theorem qw {xs:List V} {k:Nat} (h:k<=xs.length):fI xs (some (k:Int)) none=xs.drop k:=by
 unfold fI
 rw [HT.oa,HT.MP,agy h,ada]
 rw [abO]
 omega
end
theorem vY (l:aay) (xs:Array aae) (n:Nat) (b:aay) (ys:Array aae) (k:Nat) (dd:Option aay) (sl:Array (Option aae)) (few:¬(!xs.isEmpty && adt (xs.size+ys.size))=true) (h1:xs.size<=aaj) (h2:xs.size+ys.size<=aaj+1) :
  Meets (Builtin.«list.extend» ⟨[.ref l,.ref b],[]⟩)
   (fun _ R st=>st.heap.get? l=some { cls:=.type "list",dict:=none,data:=.seq xs n,slots:=#[] }/\st.heap.get? b=some { cls:=.type "tuple",dict:=dd,data:=.seq ys k,slots:=sl } /\
    R (.ok (.ret ack)) { st with heap:=st.heap.update l (adf fun x=>x++ys),toks:=st.toks }) :=
 .of_wp fun prog w A R st h=>by
  obtain⟨z,gs,dr,tk,os⟩:=st
  obtain⟨gl,gb,q⟩:=h
  have i1:=AutoSeq1.idx_int
  have i2:=agZ
  have B:=AutoSeq1.sub_list_list
  have F:=AutoSeq1.sub_tuple_list
  have G:=AutoSeq1.sub_list_tuple
  have both:(xs++ys).size<=aaj+1:=by rw [Array.size_append];exact h2
  wp_walk using (wpAny_updateSeq gl rfl (hz:=h1) (_hz':=both)),ag0 gl,ag0 gb
  exact⟨_,rfl,q⟩
section
variable {X:Cx}
def M9 (K:aaa):V->List V->Hp->VK->Prop:=fun x vs H Q=>∃l b xs zs,x=.ref l/\vs=[.ref b]/\H l=some (.lst xs)/\bH K H b zs/\xs.length+zs.length<=aaj/\Q .cg (upd H l (.lst (xs++zs)))
theorem vZ:PZ X "list.extend" (M9 X.K):=by
 intro pins s σ H x vs v us Q I rx rv h
 obtain⟨l,b,xs,zs,rfl,rfl,B,J,hz,q⟩:=h
 cases (show v=abF l from rx)
 obtain⟨u,rfl,ru⟩:=vals1 rv
 cases (show u=abF b from ru)
 obtain⟨z,its,n,r,hl,e⟩:=I.Kq B
 obtain⟨dF,r2,pl,L⟩:=I.tuple J
 obtain⟨⟨oc,od,dat,sl⟩,G,F,n2,hd⟩:=id pl
 simp only at F hd
 subst F hd
 have gW:=r2.length
 have hsz:its.toArray.size+dF.toArray.size<=aaj:=by rw [aaB,aaB];omega
 have MT:¬ (!its.toArray.isEmpty && adt (its.toArray.size+dF.toArray.size))=true:=by
  rw [Er hsz,Bool.and_false]
  exact aaZ
 refine call_meets adA ⟨_,e,rfl⟩ ahk (ag9 _ _)
  (vY l its.toArray n b dF.toArray n2 od sl MT (by rw [aaB];omega) (by omega)) ⟨e,G,?_⟩
 refine⟨.cg,_,I.Tj (its':=its++dF) B e (by simp) (r.append r2) ?_,rfl,q⟩
 rw [aab]
 omega
end
section
variable {X:Cx} {K:aaa} {o e:Expr} {f:Str} {pos:Pos} {ta:TE}
theorem qx (q:X.K=K) (B:PE X e ta) (z:attributeBase e f X.env (eval e X.env)=eval e X.env):PE X (.Attribute e f pos) (tFld K ta f):=by
 subst q
 exact pe_fld B z
end
section
variable {κ:Type} [DecidableEq κ]
noncomputable def bM (kvs:List (κ × V)) (k:κ):Option V:=(kvs.find? fun kv=>decide (kv.1=k)).map (·.2)
noncomputable def putK (kvs:List (κ × V)) (k:κ) (v:V):List (κ × V) :=
 if (kvs.any fun kv=>decide (kv.1=k))=true then kvs.map (fun kv=>if kv.1=k then (kv.1,v) else kv) else kvs++[(k,v)]
theorem mx {p:κ × V} {r:List (κ × V)} {k:κ} (e:p.1=k):bM (p::r) k=some p.2:=by simp [bM,acn,e]
theorem my {p:κ × V} {r:List (κ × V)} {k:κ} (e:¬ p.1=k):bM (p::r) k=bM r k:=by simp [bM,acn,e]
theorem jN (k:κ):∀kvs:List (κ × V),(kvs.any fun kv=>decide (kv.1=k))=(bM kvs k).isSome
 | []=>rfl
 | p::r=>by
  rw [aeu]
  by_cases e:p.1=k
  ·simp only [mx e,decide_eq_true e,Bool.true_or,Option.isSome_some]
  ·rw [my e,decide_eq_false e,ahb];exact jN k r
theorem jf (kvs:List (κ × V)) (k:κ) (v:V):(putK kvs k v).length<=kvs.length+1:=by
 unfold putK
 split
 ·rw [Lm9];omega
 ·rw [aab,aal,abN];omega
theorem EB {kvs:List (κ × V)} {k:κ} (v:V) (h:bM kvs k=none):putK kvs k v=kvs++[(k,v)]:=by
 unfold putK
 rw [jN,h]
 exact if_neg (by decide)
theorem ma.se {o:Option V} {u:Option aae} (r:ma o u):o.isSome=u.isSome:=by
 cases o with
 | none=>cases u with
  | none=>rfl
  | some _=>exact(show False from r).elim
 | some _=>cases u with
  | none=>exact(show False from r).elim
  | some _=>rfl
theorem ma.getD {o:Option V} {u:Option aae} {d:V} {d':aae} (r:ma o u) (rd:RelV d d'):RelV (o.getD d) (u.getD d'):=by
 cases o with
 | none=>cases u with
  | none=>exact rd
  | some _=>exact(show False from r).elim
 | some _=>cases u with
  | none=>exact(show False from r).elim
  | some _=>exact r
theorem KV.val {kvs:List (κ × V)} {vs:List (κ × aae)} (r:KV kvs vs) (k:κ):ma (bM kvs k) (valueAt vs k):=by
 unfold KV at r
 induction r with
 | nil=>exact adH
 | @cons p q ps qs h t ih =>
  obtain⟨h1,h2⟩:=h
  by_cases e:p.1=k
  ·have B:q.1=k:=h1.symm.trans e
   have b:valueAt (q::qs) k=some q.2:=by simp [valueAt,acn,B]
   rw [mx e,b];exact h2
  ·have B:¬ q.1=k:=fun z=>e (h1.trans z)
   have b:valueAt (q::qs) k=valueAt qs k:=by simp [valueAt,acn,B]
   rw [my e,b];exact ih
theorem KV.any {kvs:List (κ × V)} {vs:List (κ × aae)} (r:KV kvs vs) (k:κ):(kvs.any fun kv=>decide (kv.1=k))=vs.any fun kv=>decide (kv.1=k):=by
 unfold KV at r
 induction r with
 | nil=>rfl
 | cons h t ih=>rw [aeu,aeu,ih,h.1]
theorem KV.TM {kvs:List (κ × V)} {vs:List (κ × aae)} (r:KV kvs vs) (k:κ) {y:V} {u:aae} (ry:RelV y u) :
  KV (kvs.map fun kv=>if kv.1=k then (kv.1,y) else kv) (vs.map fun kv=>if kv.1=k then (kv.1,u) else kv):=by
 unfold KV at r ⊢
 induction r with
 | nil=>exact .nil
 | @cons p q ps qs h t ih =>
  rw [abw,abw]
  refine .cons ?_ ih
  obtain⟨h1,h2⟩:=h
  by_cases e:p.1=k
  ·rw [if_pos e,if_pos (h1.symm.trans e)];exact⟨h1,ry⟩
  ·rw [if_neg e,if_neg (fun z=>e (h1.trans z))];exact⟨h1,h2⟩
theorem KV.put {kvs:List (κ × V)} {vs:List (κ × aae)} (r:KV kvs vs) (k:κ) {y:V} {u:aae} (ry:RelV y u):KV (putK kvs k y) (stored vs k u):=by
 unfold putK stored
 rw [r.any k]
 by_cases e:(vs.any fun kv=>decide (kv.1=k))=true
 ·rw [if_pos e,if_pos e];exact r.TM k ry
 ·rw [if_neg e,if_neg e];exact aiv r ⟨rfl,ry⟩
theorem KV.keys {kvs:List (κ × V)} {vs:List (κ × aae)} (r:KV kvs vs):kvs.map (·.1)=vs.map (·.1):=by
 unfold KV at r
 induction r with
 | nil=>rfl
 | cons h t ih=>rw [abw,abw,ih,h.1]
theorem KV.length {kvs:List (κ × V)} {vs:List (κ × aae)} (r:KV kvs vs):kvs.length=vs.length:=aai r
end
theorem uc {P:abn} {w:abU} {k:Key} {u:aae} (r:RelV (kV k) u):(bh P w).is k u=true:=by
 cases k with
 | inl i=>obtain⟨t,e⟩:=(show ∃t,u=ah1 i t from r);subst e;exact Eh P w i t
 | inr x=>obtain⟨t,e⟩:=(show ∃t,u=ac1 x t from r);subst e;exact Ei P w x t
theorem AV {P:abn} {w:abU}:∀{ks:List Key} {us:List aae},Vals (ks.map kV) us->ItemsAre (bh P w) ks us
 | [],_,r=>by rw [adK] at r;cases r;exact .nil
 | k::ks,_,r=>by
  rw [abw] at r
  cases r with
  | cons h t=>exact .cons (uc h) (AV t)
abbrev KT (H:Hp):List (List Key × V)->List (List Key × aay × aae)->Prop:=Paired fun p q=>p.1=q.1/\H q.2.1=some (.tup (p.1.map kV))/\RelV p.2 q.2.2
theorem KT.val {H:Hp} {kvs:List (List Key × V)} {xs:List (List Key × aay × aae)} (r:KT H kvs xs) (k:List Key):ma (bM kvs k) ((atKey xs k).map (·.2)):=by
 induction r with
 | nil=>exact adH
 | @cons p q ps qs h t ih =>
  obtain⟨h1,_,h2⟩:=h
  by_cases e:p.1=k
  ·have B:q.1=k:=h1.symm.trans e
   have b:atKey (q::qs) k=some q.2:=by simp [atKey,acn,B]
   rw [mx e,b];exact h2
  ·have B:¬ q.1=k:=fun z=>e (h1.trans z)
   have b:atKey (q::qs) k=atKey qs k:=by simp [atKey,acn,B]
   rw [my e,b];exact ih
theorem KT.TM {H:Hp} {kvs:List (List Key × V)} {xs:List (List Key × aay × aae)} (r:KT H kvs xs) (k:List Key) {y:V} {u:aae} (ry:RelV y u) :
  KT H (kvs.map fun kv=>if kv.1=k then (kv.1,y) else kv) (xs.map (putAt k u)):=by
 induction r with
 | nil=>exact .nil
 | @cons p q ps qs h t ih =>
  rw [abw,abw]
  refine .cons ?_ ih
  obtain⟨h1,h2,B⟩:=h
  unfold putAt
  by_cases e:p.1=k
  ·rw [if_pos e,if_pos (h1.symm.trans e)];exact⟨h1,h2,ry⟩
  ·rw [if_neg e,if_neg (fun z=>e (h1.trans z))];exact⟨h1,h2,B⟩
theorem KT.put {H:Hp} {kvs:List (List Key × V)} {xs:List (List Key × aay × aae)} (r:KT H kvs xs) (k:List Key) {b:aay} {y:V} {u:aae} (z:H b=some (.tup (k.map kV))) (ry:RelV y u) :
  KT H (putK kvs k y) (storedH xs k b u):=by
 have e:(kvs.any fun kv=>decide (kv.1=k))=(atKey xs k).isSome:=by
  rw [jN,(r.val k).se,aik]
 unfold putK storedH
 rw [e]
 by_cases q:(atKey xs k).isSome=true
 ·rw [if_pos q,if_pos q];exact r.TM k ry
 ·rw [if_neg q,if_neg q];exact aiv r ⟨rfl,z,ry⟩
theorem KT.keeps {H H':Hp} {kvs:List (List Key × V)} {xs:List (List Key × aay × aae)} (r:KT H kvs xs) (q:∀b ys,H b=some (.tup ys)->H' b=some (.tup ys)):KT H' kvs xs :=
 Paired.bA r fun _ _ z=>⟨z.1,q _ _ z.2.1,z.2.2⟩
section
variable {P:abn} {w:abU} {H:Hp} {h:Heap} {a:aay}
theorem R0 {u:HO} (ok:mm P w H h) (e:Rd H a u):cL P w H h a u:=e.ok ok
theorem AW {kvs:List (Key × V)} (ok:mm P w H h) (e:Rd H a (.dK kvs)):kvs.length<=aaj/\(a == sysModules)=false/\∃vs,KV kvs vs/\h.DictOf (bh P w) a vs :=
 show cL P w H h a (.dK kvs) from R0 ok e
theorem Na {kvs:List (Key × V)} (ok:mm P w H h) (e:H a=some (.dK kvs)):kvs.length<=aaj/\(a == sysModules)=false/\∃vs,KV kvs vs/\h.DictOf (bh P w) a vs:=AW ok (.inl e)
theorem v8 {ks:List Key} (ok:mm P w H h) (e:H a=some (.tup (ks.map kV))):(tupleKind (bh P w)).is h ks a:=by
 obtain⟨_,its,r,o,h1,h2,n,q⟩:=(show cL P w H h a (.tup (ks.map kV)) from ok a _ e)
 exact⟨o,its.toArray,n,h1,h2,q,by simpa using AV r⟩
theorem AX {kvs:List (List Key × V)} (ok:mm P w H h) (e:Rd H a (.dT kvs)):kvs.length<=aaj/\(a == sysModules)=false /\
  ∃xs,KT H kvs xs/\h.DictOfH (tupleKind (bh P w)) a xs:=by
 obtain⟨z,y,xs,r,o,es,ep,h1,h2,G,J,L⟩:=(show cL P w H h a (.dT kvs) from R0 ok e)
 refine⟨z,y,xs,r,o,es,ep,h1,h2,G,J,fun x B=>?_,L⟩
 have all:∀{l:List (List Key × V)} {m:List (List Key × aay × aae)},KT H l m->∀x∈m,(tupleKind (bh P w)).is h x.1 x.2.1:=by
  intro l m q
  induction q with
  | nil=>intro x B;exact nomatch B
  | @cons p q ps qs F t ih =>
   intro x B
   rcases aaK.mp B with e|B
   ·subst e
    exact v8 ok (by rw [<- F.1];exact F.2.1)
   ·exact ih x B
 exact all r x B
theorem Ww {kvs:List (List Key × V)} (ok:mm P w H h) (e:H a=some (.dT kvs)):kvs.length<=aaj/\(a == sysModules)=false /\
  ∃xs,KT H kvs xs/\h.DictOfH (tupleKind (bh P w)) a xs:=AX ok (.inl e)
end
def gj (H:Hp) (a:aay) (y:V) (r:Option V):Prop :=
 (∃kvs k,Rd H a (.dK kvs)/\y=kV k/\r=bM kvs k)\/∃kvs k b,Rd H a (.dT kvs)/\y=.ref b/\H b=some (.tup (k.map kV))/\r=bM kvs k
def Kw (H:Hp) (a:aay) (y v:V) (H':Hp):Prop :=
 (∃kvs k,H a=some (.dK kvs)/\y=kV k/\kvs.length<aaj/\H'=upd H a (.dK (putK kvs k v))) \/
 ∃kvs k b,H a=some (.dT kvs)/\y=.ref b/\H b=some (.tup (k.map kV))/\kvs.length<aaj/\H'=upd H a (.dT (putK kvs k v))
theorem gj.k {H:Hp} {a:aay} {kvs:List (Key × V)} {k:Key} (e:H a=some (.dK kvs)):gj H a (kV k) (bM kvs k):=.inl ⟨kvs,k,.inl e,rfl,rfl⟩
theorem Kw.k {H:Hp} {a:aay} {kvs:List (Key × V)} {k:Key} {v:V} (e:H a=some (.dK kvs)) (hl:kvs.length<aaj):Kw H a (kV k) v (upd H a (.dK (putK kvs k v))):=.inl ⟨kvs,k,e,rfl,hl,rfl⟩
section
variable {X:Cx} {pins:List (aay × Obj)} {σ:St} {H:Hp} {s:aah} {a:aay} {y v:V} {u r:aae} {o:Option V} {A:abP} {E:aae->aah->Prop}
theorem Inv.big (I:Inv X pins σ H s):sysModules<s.heap.objs.size:=by
 have h:aa3<s.heap.objs.size:=(I.mod.glob.keeps I.bk).lt
 exact Nat.lt_trans (by decide) h
theorem Kx {Q:aae->aah->Prop} (L:A.units+1<cLine) (I:Inv X pins σ H s) (g:gj H a y (some v)) (ry:RelV y u) (h:∀q s',Inv X pins σ H s'->RelV v q->Q q s') :
  aby (model X.prog X.w) A (getItem (.ref a) u) Q E s:=by
 rcases g with⟨kvs,k,e,B,l⟩|⟨kvs,k,b,e,B,G,l⟩
 ·subst B
  obtain⟨z,hd,vs,rel,dd⟩:=AW I.hok e
  obtain⟨q,F,GS⟩:=ma.some_of (v:=v) (o:=valueAt vs k) (by rw [l];exact rel.val k)
  exact wpAny_getItem_of (uc ry) dd.mapOf F (h q _ (I.tok _) GS)
 ·subst B
  cases (show u=abF b from ry)
  obtain⟨z,hd,xs,rel,dd⟩:=AX I.hok e
  obtain⟨q,F,GS⟩:=ma.some_of (v:=v) (o:=(atKey xs k).map (·.2)) (by rw [l];exact rel.val k)
  obtain⟨p,J,yI⟩:=adG.mp F
  refine wpAny_getItem_heap (tupleKind_room_in1 L) (v8 I.hok G) dd J ?_
  rw [yI]
  exact h q _ (I.tok _) GS
theorem Qa {Q:aae->aah->Prop} (G:A.units+1<cLine) (I:Inv X pins σ H s) (g:gj H a y o) (ry:RelV y u) (h:∀s',Inv X pins σ H s'->Q (.bool (!o.isSome)) s') :
  aby (model X.prog X.w) A (compareOp .NotIn u (.ref a)) Q E s:=by
 rcases g with⟨kvs,k,e,B,l⟩|⟨kvs,k,b,e,B,F,l⟩
 ·subst B
  obtain⟨z,hd,vs,rel,dd⟩:=AW I.hok e
  refine wpAny_notIn_of (uc ry) hd dd.mapOf ?_
  rw [<- (rel.val k).se,<- l]
  exact h _ (I.tok _)
 ·subst B
  cases (show u=abF b from ry)
  obtain⟨z,hd,xs,rel,dd⟩:=AX I.hok e
  refine wpAny_notIn_heap (tupleKind_room_in1 G) (v8 I.hok F) hd dd ?_
  have q:=(rel.val k).se
  rw [aik] at q
  rw [<- q,<- l]
  exact h _ (I.tok _)
theorem B4 {h':Heap} {t':Nat} {ob:HO} (I:Inv X pins σ H s) (mu:VR (H a)) (hs:aek a s.heap h') (F:∃q,h'.get? a=some q) (new:cL X.prog X.w (upd H a ob) h' a ob) :
  Inv X pins σ (upd H a ob) { s with heap:=h',toks:=t' } :=
 I.write (x:=a) (e:=a) mu (.inl rfl) (fun b q B z=>(hs.2 b B).trans z) F new
theorem Nb {P:abn} {w:abU} {H':Hp} {h':Heap} {kvs:List (Key × V)} {vs:List (Key × aae)} (z:kvs.length<=aaj) (hd:(a == sysModules)=false) (rel:KV kvs vs) (dd:h'.DictOf (bh P w) a vs) :
  cL P w H' h' a (.dK kvs):=⟨z,hd,vs,rel,dd⟩
theorem Ky {H':Hp} {Q:Unit->aah->Prop} (Z:A.units+1<cLine) (I:Inv X pins σ H s) (g:Kw H a y v H') (ry:RelV y u) (rv:RelV v r) (h:∀s',Inv X pins σ H' s'->Q () s') :
  aby (model X.prog X.w) A (setItem (.ref a) u r) Q E s:=by
 rcases g with⟨kvs,k,e,F,l,eH⟩|⟨kvs,k,b,e,F,G,l,eH⟩
 ·subst F eH
  obtain⟨z,hd,vs,rel,dd⟩:=Na I.hok e
  have hz:vs.length<=aaj:=by rw [<- rel.length];exact z
  have hl:(putK kvs k v).length<=aaj:=by have:=jf kvs k v;omega
  refine wpAny_setItem_pairs (hsz:=hz) (uc ry) dd fun h' TN hs=>h _ ?_
  have Y:∃q,h'.get? a=some q:=let ⟨q,_,_,B,_⟩:=TN;⟨q,B⟩
  exact B4 I (by rw [e];exact adH) hs Y (Nb hl hd (rel.put k rv) TN)
 ·subst F eH
  cases (show u=abF b from ry)
  obtain⟨z,hd,xs,rel,dd⟩:=Ww I.hok e
  have hz:xs.length<=aaj:=by rw [<- aai rel];exact z
  have hl:(putK kvs k v).length<=aaj:=by have:=jf kvs k v;omega
  refine wpAny_setItem_heap (hsz:=hz) (tupleKind_room_in1 Z) (v8 I.hok G) dd fun h' TN hs=>h _ ?_
  obtain⟨q,es,ep,B,h2,L,O,_,V⟩:=TN
  refine B4 I (by rw [e];exact adH) hs ⟨q,B⟩ ⟨hl,hd,_,(rel.put k G rv).keeps fun c ys J=>?_,q,es,ep,B,h2,L,O,V⟩
  rw [aD (ml J e (fun z=>nomatch z))]
  exact J
end
section
variable {X:Cx} {pins:List (aay × Obj)} {σ:St} {H:Hp} {s:aah} {a:aay} {kvs:List (Key × V)} {k:Key} {u:aae} {A:abP} {E:aae->aah->Prop}
end
def Wx (i:Expr):Prop:=∀ov iv,subscripted i false ov iv=operate [ov,iv] (getItem ov iv)
theorem Qb {prog:abn} {w:abU} {A:abP} {E:aae->aah->Prop} {s:aah} {env:Env} {b9 slice:Expr} {pos:Pos} {T id:String} {Q:aae->aah->Prop}
  (hl:typeLookup (.type T) "__getitem__"=pure (some (.builtin id))) (hs:Wx slice)
  (h:aby (model prog w) A (eval b9 env) (fun o s₁=>aby (model prog w) A (eval slice env) (fun i s₂=>s₂.TypeIs o T/\aby (model prog w) A (getItem o i) Q E s₂) E s₁) E s) :
  aby (model prog w) A (eval (.Subscript b9 slice pos) env) Q E s:=by
 refine Subscript_ (wpAny_mono h (fun o s₁ h₁=>wpAny_mono h₁ (fun i s₂ h₂=>?_) fun _ _ x=>x) fun _ _ x=>x)
 obtain⟨q,h₂⟩:=h₂
 unfold subscriptTail
 refine aac ?_
 rw [getitemInPython_of_ne q.not_modules]
 refine aac (wpAny_specialOf q hl ?_)
 have fin:aby (model prog w) A (subscripted slice false o i) (fun r s₃=>aby (model prog w) A (letTemporaryGo b9 o r >>= fun _=>pure r) Q E s₃) E s₂:=by
  rw [hs o i]
  exact wpAny_operating (wpAny_mono h₂ (fun r s₃ h₃=>aac (wpAny_letTemporaryGo (aav h₃))) fun _ _ x=>x)
 first
  | exact aav (aac fin)
  | exact aac (aav (aac fin))
  | exact aac fin
theorem EC {X:Cx} {pins:List (aay × Obj)} {σ:St} {H:Hp} {s:aah} {a:aay} {y:V} {o:Option V} (I:Inv X pins σ H s) (g:gj H a y o):s.TypeIs (.ref a) "dict":=by
 rcases g with⟨kvs,k,e,_,_⟩|⟨kvs,k,b,e,_,_,_⟩
 ·obtain⟨_,_,vs,_,dd⟩:=AW I.hok e
  exact dd.typeIs
 ·obtain⟨_,_,xs,_,dd⟩:=AX I.hok e
  exact dd.typeIs
def Wy (td ty:TE):TE:=fun σ H Q=>td σ H fun x H1=>ty σ H1 fun y U=>∃a v,x=.ref a/\gj U a y (some v)/\Q v U
def Qc (ty td:TE):TE:=fun σ H Q=>ty σ H fun y H1=>td σ H1 fun x U=>∃a o,x=.ref a/\gj U a y o/\Q (.bl (!o.isSome)) U
def Wz (td ty tv:TE):TS:=fun D σ H=>tv σ H fun v H1=>td σ H1 fun x U=>ty σ U fun y H3=>∃a H4,x=.ref a/\Kw H3 a y v H4/\D.nx σ H4
section
variable {X:Cx} {o i e b9:Expr} {pos f8 PK:Pos} {td ty tv:TE}
theorem Jk (z:X.A.units+1<cLine) (q:PE X o td) (hi:PE X i ty) (hs:Wx i):PE X (.Subscript o i pos) (Wy td ty):=by
 intro pins s σ H Q I h
 refine Qb PySem.F.slot_dict_getitem.lookup hs (thn (q pins s σ H _ I h) fun u s1 ⟨x,H1,I1,rx,q1⟩=>thn (hi pins s1 σ H1 _ I1 q1) fun iv s2 Zq=>?_)
 obtain⟨y,U,I2,ry,a,v,ex,g,q2⟩:=Zq
 subst ex
 obtain rfl:u=abF a:=rx
 exact⟨EC I2 g,Kx z I2 g ry fun B s3 I3 GS=>⟨v,U,I3,GS,q2⟩⟩
theorem sf (z:X.A.units+1<cLine) (hi:PE X i ty) (q:PE X o td):PC X .NotIn i o (Qc ty td):=by
 intro pins s σ H Q I h
 refine thn (hi pins s σ H _ I h) fun iv s1 ⟨y,H1,I1,ry,q1⟩=>thn (q pins s1 σ H1 _ I1 q1) fun u s2 Zq=>?_
 obtain⟨x,U,I2,rx,a,ov,ex,g,q2⟩:=Zq
 subst ex
 obtain rfl:u=abF a:=rx
 exact Qa z I2 g ry fun s3 I3=>⟨.bl (!ov.isSome),U,I3,rfl,q2⟩
theorem Jl (z:X.A.units+1<cLine) (q:PE X o td) (hi:PE X i ty) (B:PE X b9 tv) (hs:swapsWith b9 (some (.Subscript o i f8)) pos.line X.env=pure false) :
  PS X (.Assign [.Subscript o i f8] b9 pos) (Wz td ty tv):=by
 intro pins s σ H D I h
 refine wpAny_Assign_Subscript (thn (B pins s σ H _ I h) fun r s1 ⟨v,H1,I1,rv,q1⟩=>thn (q pins s1 σ H1 _ I1 q1) fun u s2 ⟨x,U,I2,rx,q2⟩=>thn (hi pins s2 σ U _ I2 q2) fun iv s3 Zq=>?_) hs
 obtain⟨y,H3,I3,ry,a,H4,ex,g,q3⟩:=Zq
 subst ex
 obtain rfl:u=abF a:=rx
 exact Ky z I3 g ry rv fun F I4=>⟨σ,H4,I4,q3⟩
end
theorem ED {P:abn} {w:abU} {H:Hp} (h:Heap) (q:sysModules<h.objs.size):cL P w H (h.push { cls:=.type "dict",data:=.dict #[] }) h.objs.size (.dK []) :=
 ⟨ab4 _,beq_eq_false_iff_ne.mpr (aea (abj q)),[],.nil,ahx h⟩
def TQ:TE:=fun _ H Q=>∀p,H p=none->Q (.ref p) (upd H p (.dK []))
section
variable {X:Cx} {pos:Pos}
theorem EE:PE X (.Dict [] [] pos) TQ:=fun pins s σ H Q I h =>
 wpAny_Dict_empty ⟨.ref s.heap.objs.size,_,I.laid (a:=s.heap.objs.size) (o:=.dK []) (t':=s.toks) (fun _ _ q=>aag _ q) (aar _) (ED s.heap I.big),rfl,h _ (I.hok.fresh (aar _))⟩
end
def G3:List (TE × TE)->St->Hp->(List (V × V)->Hp->Prop)->Prop
 | [],_,H,Q=>Q [] H
 | (tk,tv)::r,σ,H,Q=>tk σ H fun x H1=>tv σ H1 fun y U=>G3 r σ U fun ps H3=>Q ((x,y)::ps) H3
abbrev VV:List (V × V)->List (aae × aae)->Prop:=Paired fun p q=>RelV p.1 q.1/\RelV p.2 q.2
def Zk (X:Cx) (pos:Pos) (keys:List (Option Expr)) (values:List Expr) (Qd:List (TE × TE)):Prop :=
 ∀(pins:List (aay × Obj)) (s:aah) (σ:St) (H:Hp) (Q:List (V × V)->Hp->Prop),Inv X pins σ H s->G3 Qd σ H Q ->
  aby (model X.prog X.w) X.A (evalPairs (pairTrees keys values X.env pos)) (fun vs s'=>∃ps H',Inv X pins σ H' s'/\VV ps vs/\Q ps H') X.xe s
theorem Qe {X:Cx} {pos:Pos}:Zk X pos [] [] []:=fun pins s σ H Q I h=>pairTrees_nil_walk ⟨[],H,I,.nil,h⟩
theorem Nc {X:Cx} {pos:Pos} {k v:Expr} {ks:List (Option Expr)} {vs:List Expr} {tk tv:TE} {Qd:List (TE × TE)} (hk:PE X k tk) (q:PE X v tv) (hr:Zk X pos ks vs Qd) :
  Zk X pos (some k::ks) (v::vs) ((tk,tv)::Qd):=fun pins s σ H Q I h =>
 pairTrees_cons_walk (thn (hk pins s σ H _ I h) fun u s1 ⟨x,H1,I1,rx,q1⟩=>thn (q pins s1 σ H1 _ I1 q1) fun w2 s2 ⟨y,U,I2,ry,q2⟩ =>
  thn (hr pins s2 σ U _ I2 q2) fun ws s3 ⟨ps,H3,I3,rel,q3⟩=>⟨(x,y)::ps,H3,I3,.cons ⟨rx,ry⟩ rel,q3⟩)
noncomputable def cR (kvs more:List (Key × V)):List (Key × V):=more.foldl (fun acc kv=>putK acc kv.1 kv.2) kvs
theorem KV.merge:∀{more:List (Key × V)} {rs:List (Key × aae)} {kvs:List (Key × V)} {vs:List (Key × aae)},KV more rs->KV kvs vs->KV (cR kvs more) (merged vs rs):=by
 intro more rs kvs vs r
 unfold KV at r
 induction r generalizing kvs vs with
 | nil=>intro q;exact q
 | @cons p q ps qs h t ih =>
  intro z
  have e:KV (putK kvs p.1 p.2) (stored vs q.1 q.2):=by
   have:=z.put p.1 h.2
   rw [<- h.1];exact this
  exact ih e
theorem oH:∀(more kvs:List (Key × V)),(cR kvs more).length<=kvs.length+more.length
 | [],kvs=>by show kvs.length<=kvs.length+0;omega
 | p::r,kvs=>by
  have h1:=oH r (putK kvs p.1 p.2)
  have h2:=jf kvs p.1 p.2
  show(cR (putK kvs p.1 p.2) r).length<=_
  rw [aal];omega
theorem v9 {P:abn} {w:abU}:∀{kvs:List (Key × V)} {ws:List (aae × aae)},VV (kvs.map fun kv=>(kV kv.1,kv.2)) ws->∃rs,Carries (bh P w) ws rs/\KV kvs rs
 | [],_,r=>by rw [adK] at r;cases r;exact⟨[],adH,.nil⟩
 | p::kvs,_,r=>by
  rw [abw] at r
  cases r with
  | @cons a b as bs h t =>
   obtain⟨rs,c,q⟩:=v9 (P:=P) (w:=w) t
   obtain⟨b1,b2⟩:=b
   exact⟨(p.1,b2)::rs,⟨uc h.1,rfl,c⟩,.cons ⟨rfl,h.2⟩ q⟩
def WA (Qd:List (TE × TE)):TE:=fun σ H Q=>∀p,H p=none->G3 Qd σ (upd H p (.dK [])) fun ps U=>U p=some (.dK [])/\∃kvs:List (Key × V),ps=kvs.map (fun kv=>(kV kv.1,kv.2))/\kvs.length<=15/\Q (.ref p) (upd U p (.dK (cR [] kvs)))
theorem Qf {X:Cx} {pos:Pos} {keys:List (Option Expr)} {values:List Expr} {Qd:List (TE × TE)} (h:Zk X pos keys values Qd) (hall:keys.all (·.isSome)=true) (hl:keys.length=values.length) (h0:keys≠[])
  (B:keys.length<=15):PE X (.Dict keys values pos) (WA Qd):=by
 intro pins s σ H Q I q
 have hn:=I.hok.fresh (aar s.heap.objs.size)
 have I1:=I.laid (a:=s.heap.objs.size) (o:=.dK []) (h':=s.heap.push { cls:=.type "dict",data:=.dict #[] }) (t':=s.toks) (fun _ _ q=>aag _ q) (aar _) (ED s.heap I.big)
 refine wpAny_Dict_walk (knd:=bh X.prog X.w) hall hl h0 B (thn (h pins _ σ _ _ I1 (q _ hn)) fun ws s2 Zq=>?_)
 obtain⟨ps,U,I2,rel,e,kvs,ep,lk,q2⟩:=Zq
 subst ep
 obtain⟨rs,c,rk⟩:=v9 (P:=X.prog) (w:=X.w) rel
 obtain⟨z,hd,vs0,J,dd⟩:=Na I2.hok e
 cases J
 refine⟨rs,c,dd,fun h' TN hs=>⟨.ref s.heap.objs.size,_,?_,rfl,q2⟩⟩
 have hz:(cR [] kvs).length<=aaj:=by
  have h1:=oH kvs []
  rw [abN] at h1
  rw [aaz];omega
 have F:∃q,h'.get? s.heap.objs.size=some q:=let ⟨q,_,_,G,_⟩:=TN;⟨q,G⟩
 exact B4 I2 (by rw [e];exact adH) hs F (Nb hz hd (rk.merge .nil) TN)
structure M2 (X:Cx) (o:Expr) (m:Str) (apos:Pos) (e f:Expr) (cpos:Pos):Prop where
 base:attributeBase o m X.env (eval o X.env)=eval o X.env
 few:((backTo cpos (starEach [e,f] X.env)).all (fun x=>!x.1) && (backToKw cpos (keywordEach [] X.env)).all (fun x=>x.1.isSome)
  && decide (([e,f]:List Expr).length+([]:List Keyword).length+(if ([]:List Keyword).isEmpty then 0 else 1)<30))=true
 line:(apos.endLine == cpos.line)=true
 trees:backTo cpos (starEach [e,f] X.env)=[(false,eval e X.env),(false,eval f X.env)]
def WB (H:Hp) (a:aay):Prop:=(∃kvs,Rd H a (.dK kvs))\/∃kvs,Rd H a (.dT kvs)
theorem Qg {X:Cx} {pins:List (aay × Obj)} {σ:St} {H:Hp} {s:aah} {a:aay} (I:Inv X pins σ H s) (d:WB H a) :
  s.TypeIs (.ref a) "dict"/\(∀b,abF a=.ref b->∃ob,s.heap.get? b=some ob/\ob.dict=none)/\(a == sysModules)=false:=by
 rcases d with⟨kvs,e⟩|⟨kvs,e⟩
 ·obtain⟨_,hd,vs,_,dd⟩:=AW I.hok e
  refine⟨dd.typeIs,fun b q=>?_,hd⟩
  cases q
  obtain⟨ob,_,_,h1,h2,_⟩:=dd
  exact⟨ob,h1,h2.2.1⟩
 ·obtain⟨_,hd,xs,_,dd⟩:=AX I.hok e
  refine⟨dd.typeIs,fun b q=>?_,hd⟩
  cases q
  obtain⟨ob,_,_,h1,h2,_⟩:=dd
  exact⟨ob,h1,h2.2.1⟩
section
variable {X:Cx} {pins:List (aay × Obj)} {σ:St} {H:Hp} {s:aah} {a:aay} {y d:V} {u r:aae} {o:Option V} {A:abP} {E:aae->aah->Prop}
theorem TR {Q:aae->aah->Prop} (G:A.units+1<cLine) (I:Inv X pins σ H s) (g:gj H a y o) (ry:RelV y u) (rd:RelV d r) (h:∀B s',Inv X pins σ H s'->RelV (o.getD d) B->Q B s') :
  aby (model X.prog X.w) A (call (.builtin "dict.get") [.ref a,u,r]) Q E s:=by
 rcases g with⟨kvs,k,e,q,l⟩|⟨kvs,k,b,e,q,F,l⟩
 ·subst q
  obtain⟨z,hd,vs,rel,dd⟩:=AW I.hok e
  refine call_meetsIn agn dd.typeIs ahl (ahc _ _ _) (meets_dict_get_default (bh X.prog X.w) a (uc ry) hd r) ⟨_,dd.mapOf,h _ _ (I.tok _) ?_⟩
  rw [l]
  exact(rel.val k).getD rd
 ·subst q
  cases (show u=abF b from ry)
  obtain⟨z,hd,xs,rel,dd⟩:=AX I.hok e
  refine call_meetsIn agn dd.typeIs ahl (ahc _ _ _) (meetsH_dict_get_default (tupleKind (bh X.prog X.w)) a b hd r) ⟨tupleKind_room_in1 G,k,xs,v8 I.hok F,dd,h _ _ (I.tok _) ?_⟩
  rw [l]
  exact(rel.val k).getD rd
end
def TU (td ty tx:TE):TE:=fun σ H Q=>td σ H fun x H1=>∃a,x=.ref a/\WB H1 a/\ty σ H1 fun y U=>tx σ U fun z H3=>∃o,gj H3 a y o/\Q (o.getD z) H3
section
variable {X:Cx} {o e f:Expr} {apos cpos:Pos} {td ty tx:TE}
theorem dG (G:X.A.units+1<cLine) (F:PE X o td) (q:PE X e ty) (B:PE X f tx) (m:M2 X o "get" apos e f cpos):PE X (.Call (.Attribute o "get" apos) [e,f] [] cpos) (TU td ty tx):=by
 intro pins s σ H Q I h
 refine wpAny_Call_method m.base m.few m.line PySem.F.plainAttrs_dict agn PySem.F.type_dict_get (thn (F pins s σ H _ I h) fun u s1 Zq=>?_)
 obtain⟨x,H1,I1,rx,a,ex,d,q1⟩:=Zq
 subst ex
 obtain rfl:u=abF a:=rx
 obtain⟨J,L,_⟩:=Qg I1 d
 refine⟨J,L,?_⟩
 rw [m.trees]
 refine agg rfl (aeC (af6 (thn (q pins s1 σ H1 _ I1 q1) fun iv s2 ⟨y,U,I2,ry,q2⟩ =>
  af6 (thn (B pins s2 σ U _ I2 q2) fun fv s3 ⟨z,H3,I3,rz,ov,g,q3⟩=>agY ?_))))
 exact TR G I3 g ry rz fun V O I4 GS=>⟨_,H3,I4,GS,q3⟩
end
section
variable {X:Cx} {pins:List (aay × Obj)} {σ:St} {H:Hp} {s:aah} {a:aay} {kvs:List (Key × V)} {A:abP} {E:aae->aah->Prop}
end
section
variable {X:Cx} {pins:List (aay × Obj)} {σ:St} {H:Hp} {s:aah} {a:aay} {y:V} {u:aae} {A:abP} {E:aae->aah->Prop}
end
section
variable {X:Cx}
end
section
variable {κ:Type} [DecidableEq κ]
theorem Qh {kvs:List (κ × V)} {k:κ} {v:V} (h:bM kvs k=some v):k∈kvs.map (·.1):=by
 have q:(kvs.any fun kv=>decide (kv.1=k))=true:=by
  rw [jN,h]
  all_goals rfl
 obtain⟨p,z,e⟩:=adv.mp q
 exact aaw.mpr ⟨p,z,of_decide_eq_true e⟩
end
theorem TV {prog:abn} {w:abU} {A:abP} {E:aae->aah->Prop} {s:aah} {a:aay} {o:Obj} {xs:Array aae} {k:Nat} {Q:Option aae->aah->Prop}
  (F:s.heap.get? a=some o) (B:o.cls=.type "list") (WC:o.data=.seq xs k) (hd:o.dict=none) (G:A.handled=none)
  (h:∀h' tk e,Heap.NewExcOf s.heap h' e "AttributeError"->Q none { s with heap:=h',toks:=tk }) :
  aby (model prog w) A (getAttr? (.ref a) "keys") Q E s:=by
 obtain⟨c,dct,dat,sl⟩:=o
 simp only at B WC hd
 subst B WC hd
 obtain⟨J,g,d,tk,os⟩:=s
 have z:∀tk',(⟨J,g,d,tk',os⟩:aah).TypeIs (.ref a) "list":=fun _=>⟨_,F,rfl⟩
 have f1:=sub_AttributeError
 have L:=ad5.lookup
 have O:=ad5.bind (.ref a)
 have V:=am_list_getattr_none
 have hmiss:typeLookup (.type "list") "keys"=pure none:=by rw [typeLookup_type,builtinLookup_eq_fast];kernel_rfl
 unfold getAttr? getAttrBy? getAttrBy
 repeat (any_goals (first|assumption|exact z _|((with_reducible show aby _ _ (call (aew "list.__getattribute__") _ _) _ _ _);refine call_meets ad5 (z _) am_entry_list_getattribute (PySem.F.args_list_getattribute_2 _ _) (meets_getattribute_miss_list a xs k sl "keys" _ hmiss (by decide +kernel) (by decide)) ⟨F,G,fun h' tk' e q=>?_⟩)|wp_step))
 obtain⟨t',Z,Y⟩:=q.there
 show aby _ _ (getattributeRaised _ _ _ _ _ _ _) _ _ _
 unfold getattributeRaised
 repeat (any_goals (first|assumption|wp_step))
 exact h _ _ _ q.of
theorem entry_dul:entryFor table "dict.update.loop"=some Builtin.«dict.update.loop»:=entryFor_of_tree (by kernel_rfl)
theorem plain_dul:plainId "dict.update.loop"=true:=by decide +kernel
theorem paired_at {α β:Type} {F:α->β->Prop}:∀{l1:List α} {l2:List β},Paired F l1 l2->∀i (h1:i<l1.length) (h2:i<l2.length),F l1[i] l2[i]
 | _,_,.cons h _,0,_,_=>h
 | _,_,.cons _ t,i+1,h1,h2=>paired_at t i (by simpa using h1) (by simpa using h2)
theorem ki:∀(ps:List (Key × V)),(cR [] ps).length<=ps.length:=by
 have key:∀(ps acc:List (Key × V)),(cR acc ps).length<=acc.length+ps.length:=by
  intro ps
  induction ps with
  | nil=>intro acc;exact aar _
  | cons p r ih =>
   intro acc
   have z:=ih (putK acc p.1 p.2)
   have q:(putK acc p.1 p.2).length<=acc.length+1:=jf acc p.1 p.2
   show(cR (putK acc p.1 p.2) r).length<=_
   rw [aal]
   omega
 intro ps
 have z:=key ps []
 simpa using z
section
variable {X:Cx} {pins:List (aay × Obj)} {σ:St} {H:Hp} {s:aah} {a it l:aay} {ys:List V} {its:List aae} {ps:List (Key × V)}
def Jm (K:aaa) (H:Hp) (ps:List (Key × V)) (ys:List V):Prop:=Paired (fun(p:Key × V) (y:V)=>∃t,y=.ref t/\bH K H t [kV p.1,p.2]) ps ys
theorem Qi {A:abP} {R:Result->aah->Prop} (I:Inv X pins σ H s) (hh:A.handled=none) (hl:s.heap.IsList l its.toArray) (rv:Vals ys its) (hP:Jm X.K H ps ys) (hlen:ps.length<=100000)
  (ha:s.heap.objs.size<=a) (abv:s.heap.objs.size<=it) (F:a≠it)
  (fin:∀h' tk vs,(∀b o,s.heap.get? b=some o->h'.get? b=some o)->h'.DictOf (bh X.prog X.w) a vs->KV (cR [] ps) vs->R (.ok (.ret .none)) { s with heap:=h',toks:=tk }) :
  ∀(k i:Nat) (h':Heap) (tk:Nat) (vs:List (Key × aae)),its.length - i=k->i<=its.length->(∀b o,s.heap.get? b=some o->h'.get? b=some o)->h'.IsListIter it l i->h'.DictOf (bh X.prog X.w) a vs->KV (cR [] (ps.take i)) vs ->
   aby (model X.prog X.w) A.in1 (Builtin.«dict.update.loop» ⟨[.ref a,.ref it,rawInt (i:Int),.none],[]⟩) (fun fin s'=>match fin with|.done f=>R (.ok f) s'|.again c'=>c'.quiet=true/\codeAny (model X.prog X.w) A c' R s') (fun e s'=>R (.error e) s') { s with heap:=h',toks:=tk }:=by
 have mj:=rv.length
 have gW:=aai hP
 have lt:∀b o,s.heap.get? b=some o->b≠a/\b≠it:=fun b o q=>by
  exact⟨abj (aa6 (aaA q) ha),abj (aa6 (aaA q) abv)⟩
 obtain⟨ol,Zl,sg⟩:=id hl
 intro k
 induction k with
 | zero =>
  intro i h' tk vs hk hi kp B O G
  obtain rfl:i=its.length:=by omega
  unfold Builtin.«dict.update.loop»
  dsimp only [rawInt]
  refine aac (wpAny_pyNext_list_end (s:={ s with heap:=h',toks:=tk }) (A:=A.in1) hh B (show h'.IsList l its.toArray from⟨ol,kp _ _ Zl,sg⟩) (by simp) fun h2 WD=>?_)
  dsimp only
  have ud:h2.DictOf (bh X.prog X.w) a vs:=O.extBut WD F
  show aby _ _ (ag1 a [] >>= _) _ _ _
  refine aac (aav (aav ?_))
  exact fin h2 tk vs (fun b o q=>WD b o (lt b o q).2 (kp b o q)) ud (by rw [<- mj,<- gW,abM] at G;exact G)
 | succ k ih =>
  intro i h' tk vs hk hi kp B O G
  have a1:i<its.length:=by omega
  have TX:i<ps.length:=by omega
  unfold Builtin.«dict.update.loop»
  dsimp only [rawInt]
  refine aac (wpAny_pyNext_list_item (s:={ s with heap:=h',toks:=tk }) (x:=its[i]) B (show h'.IsList l its.toArray from⟨ol,kp _ _ Zl,sg⟩) (by simp [a1]) fun h1 WE Zf=>?_)
  dsimp only
  have R1:∀b o,s.heap.get? b=some o->h1.get? b=some o:=fun b o q=>(Zf.2 b (lt b o q).2).trans (kp b o q)
  have I1:Inv X pins σ H { s with heap:=h1,toks:=tk }:=I.kept R1
  have R4:h1.DictOf (bh X.prog X.w) a vs:=O.sameBut Zf F
  obtain⟨u1,f1,q1⟩:=rv.get (i:=i) (x:=ys[i]'(by omega)) (by simp)
  have eu:its[i]=u1:=(aaf.mp f1).2
  obtain⟨t,et,hq⟩:∃t,ys[i]'(by omega)=.ref t/\bH X.K H t [kV (ps[i]).1,(ps[i]).2]:=by
   have z:=hP
   unfold Jm at z
   exact paired_at z i TX (by omega)
  rw [et] at q1
  have WG:its[i]=.ref t:=by rw [eu];exact q1
  rw [WG]
  obtain⟨itt,rt,pl,_⟩:=I1.tuple hq
  obtain⟨uk,uv,rfl,rk,rvv⟩:=vals2 rt
  obtain⟨ot,J,Y,n,Z⟩:=id pl
  have V:Shared.TypeIs { s with heap:=h1,toks:=tk } (.ref t) "tuple":=⟨ot,J,Y⟩
  refine aac (wpAny_holding (aac ?_))
  have a2:∀{E':aae->aah->Prop} {L:List aae->aah->Prop},L [uk,uv] { s with heap:=h1,toks:=tk }->aby (model X.prog X.w) A.in1 (aeh (.ref t)) L E' { s with heap:=h1,toks:=tk }:=fun {E' L} a3=>by
   unfold aeh
   refine aac (wpAny_typeOf V ?_)
   rw [if_pos (by decide)]
   refine aac (wpAny_seqItems J Z (aav ?_))
   exact a3
  refine wpAny_tryCatch (a2 ?_)
  dsimp only
  have hsz:vs.length<=aaj:=by
   have z:=G.length
   have z2:=ki (ps.take i)
   rw [aat] at z2
   exact ab0 (show vs.length<=100000 by omega) (show 100000<=aaj by rw [aaz];decide)
  refine wpAny_holding (wpAny_dictSet_pairs (hsz:=hsz) (uc rk) R4 fun h2 ud Nd=>?_)
  have Kz:∀b o,s.heap.get? b=some o->h2.get? b=some o:=fun b o q=>(Nd.2 b (lt b o q).1).trans (R1 b o q)
  have abz:h2.IsListIter it l (i+1):=by
   obtain⟨o,ho,r⟩:=WE
   exact⟨o,(Nd.2 it (aea F)).trans ho,r⟩
  refine aav ?_
  refine⟨plainId_quiet plain_dul _,codeAny_builtin entry_dul ?_⟩
  rw [aeD plain_dul _]
  refine ih (i+1) h2 (tk+1) _ (by omega) (by omega) Kz abz ud ?_
  rw [aao TX]
  unfold cR
  rw [aez]
  exact G.put _ rvv
theorem uV (hc:X.calm=true):fD X (.type "dict") (fun xs H Q=>∃(l:aay) (ys:List V) (ps:List (Key × V)),xs=[.ref l]/\H l=some (.lst ys)/\Jm X.K H ps ys/\ps.length<=100000/\∀d,H d=none->Q (.ref d) (upd H d (.dK (cR [] ps)))):=by
 intro pins s σ H xs us Q I r h
 obtain⟨l,ys,ps,rfl,hl,Z,hlen,q⟩:=h
 obtain⟨u,rfl,ru⟩:=vals1 r
 cases (show u=abF l from ru)
 have L:=I.ok.hd hc
 obtain⟨hz,its,n,rv,J⟩:=(show cL X.prog X.w H s.heap l (.lst ys) from I.hok l _ hl)
 have hf:H s.heap.objs.size=none:=I.hok.fresh (aar _)
 refine callType_codes (Q₁:=fun obj s₁=>obj=.ref s.heap.objs.size/\s₁={ s with heap:=s.heap.push { cls:=.type "dict",data:=.dict #[] } }) ahm (agG _) ahd (kt_code_dict_new _ ⟨rfl,rfl⟩) ?_
 rintro obj s₁ ⟨rfl,rfl⟩
 have B5:(s.heap.push { cls:=.type "dict",data:=.dict #[] }).DictOf (bh X.prog X.w) s.heap.objs.size []:=ahx s.heap
 refine⟨B5.typeIs,ag2 _ _,?_⟩
 unfold Builtin.«dict.__init__»
 refine aac ?_
 unfold ag3
 refine aac (wpAny_notOrdered_dict B5.typeIs ?_)
 show aby _ _ (pure (s.heap.objs.size,[abF l])) _ _ _
 refine aav ?_
 show aby _ _ (ad7 "dict.__init__" s.heap.objs.size (.ref l) [] .none) _ _ _
 unfold ad7
 have TY:(s.heap.push { cls:=.type "dict",data:=.dict #[] }).get? l=some { cls:=.type "list",data:=.seq its.toArray n }:=aag _ J
 refine aac (wpAny_typeOf (T:="list") ⟨_,TY,rfl⟩ ?_)
 rw [if_pos (by decide)]
 refine aac (TV TY rfl rfl rfl L fun h1 tk1 e G=>?_)
 rw [if_pos (show(none:Option aae).isNone=true from rfl)]
 refine aac (wpAny_rule ?_)
 have B:=G.keeps _ _ TY
 have z:h1.DictOf (bh X.prog X.w) s.heap.objs.size []:=by
  obtain⟨o,es,ep,F,r⟩:=B5
  exact⟨o,es,ep,G.keeps _ _ F,r⟩
 have B6:s.heap.objs.size<h1.objs.size:=by
  obtain⟨o,es,ep,F,r⟩:=z
  exact aaA F
 have me:h1.IsList l its.toArray:=⟨_,B,rfl,n,rfl⟩
 refine aac (wpAny_pyIter_list (s:={ s with heap:=h1,toks:=tk1 }) me ?_)
 refine aav ⟨plainId_quiet plain_dul _,codeAny_builtin entry_dul ?_⟩
 rw [aeD plain_dul _]
 have kp0:∀b o,s.heap.get? b=some o->(h1.push { cls:=.type "list_iterator",data:=.fields #[.ref l,.int 0 0] }).get? b=some o:=fun b o q=>aag _ (G.keeps _ _ (aag _ q))
 refine Qi (A:=X.A.in1) (its:=its) (a:=s.heap.objs.size) (it:=h1.objs.size) I L ⟨_,J,rfl,n,rfl⟩ rv Z hlen (aar _) (ahr B6) (abj B6) (fun h' tk vs kp O Y=>?_)
  its.length 0 (h1.push { cls:=.type "list_iterator",data:=.fields #[.ref l,.int 0 0] }) tk1 [] (by omega) (ab4 _) kp0 ⟨_,aa0 _ rfl,rfl,rfl⟩ (z.push _) .nil
 refine⟨rfl,.ref s.heap.objs.size,upd H s.heap.objs.size (.dK (cR [] ps)),I.laid (t':=tk) kp (aar _) ?_,rfl,q _ hf⟩
 refine⟨ab0 (ki ps) (ab0 hlen (by rw [aaz];decide)),?_,vs,Y,O⟩
 exact beq_eq_false_iff_ne.mpr (adz I.big)
end
section
variable {X:Cx}
theorem WH {P:abn} {w:abU} {k:Key} {u:aae} (r:(bh P w).is k u=true):RelV (kV k) u:=by
 rcases cK (k:=k) (v:=u) r with⟨i,t,rfl,rfl⟩|⟨x,t,rfl,rfl⟩
 ·exact⟨t,rfl⟩
 ·exact⟨t,rfl⟩
theorem Jn {xs:List V} {us:List aae} (hl:us.length=xs.length) (h:∀(j:Nat) (v:aae),us[j]?=some v->∃x,xs[j]?=some x/\RelV x v):Vals xs us:=by
 induction xs generalizing us with
 | nil=>cases us;exact .nil;cases hl
 | cons x xs ih=>
  cases us with
  | nil=>cases hl
  | cons u us=>
   obtain⟨y,e,r⟩:=h 0 u rfl
   cases e
   exact .cons r (ih (Nat.succ.inj hl) fun j v e=>h (j+1) v e)
theorem wa (Z:X.calm=true):fD X (.type "list") (fun xs H Q=>∃(d:aay) (kvs:List (Key × V)),xs=[.ref d]/\H d=some (.dK kvs)/\∀l,H l=none->Q (.ref l) (upd H l (.lst (kvs.map fun p=>kV p.1)))):=by
 intro pins s σ H xs us Q I r h
 obtain⟨d,kvs,rfl,hd,q⟩:=h
 obtain⟨u,rfl,ru⟩:=vals1 r
 cases (show u=abF d from ru)
 obtain⟨hz,lo,vs,F,Y⟩:=Na I.hok hd
 obtain⟨o,es,ep,ho,rr⟩:=Y
 have hf:H s.heap.objs.size=none:=I.hok.fresh (aar _)
 have hl:=F.length
 refine PySem.W.kdl_call (PySem.W.kdl_dict (knd:=bh X.prog X.w) (kvs:=vs) (ep:=ep) lo) (I.ok.hd Z) ⟨o,es,ho,rr⟩ (by omega) fun h' tk acc G kp hg Nf=>?_
 refine⟨.ref s.heap.objs.size,upd H s.heap.objs.size (.lst (kvs.map fun p=>kV p.1)),I.laid (t':=tk) kp (aar _) ?_,rfl,q _ hf⟩
 refine⟨by rw [Lm9];exact hz,acc.toList,G,Jn ?_ fun j v e=>?_,by simpa using hg⟩
 ·rw [Lm9,adF,Nf.1,hl]
 ·obtain⟨k,x,J,L⟩:=Nf.2 j v (by rw [<- Array.getElem?_toList];exact e)
  have z:(kvs.map (·.1))[j]?=some k:=by
   rw [F.keys,abc,J]
   rfl
  rw [abc] at z
  cases B:kvs[j]? with
  | none=>rw [B] at z;cases z
  | some p =>
   rw [B] at z
   have O:p.1=k:=abA z
   exact⟨kV p.1,by rw [abc,B];rfl,by rw [O];exact WH L⟩
def Qj (K:aaa):V->List V->Hp->VK->Prop:=fun x vs H Q=>∃(p:aay) (xs:List V) (y:V) (j:Nat),x=.ref p/\vs=[y]/\bH K H p xs/\jK y=true/\xs.all jK=true/\(∃z,xs[j]?=some z/\Mm z y=true)/\(∀m z,m<j->xs[m]?=some z->Mm z y=false)/\Q (.int j) H
theorem Ng:PZ X "tuple.index" (Qj X.K):=by
 intro pins s σ H x vs v us Q I rx rv h
 obtain⟨p,xs,y,j,rfl,rfl,Y,fy,fx,⟨z,G,hz⟩,Ml,q⟩:=h
 cases (show v=abF p from rx)
 obtain⟨u,rfl,ru⟩:=vals1 rv
 obtain⟨its,r,pl,_⟩:=I.tuple Y
 obtain⟨⟨oc,od,dat,sl⟩,V,L,n,hd⟩:=id pl
 simp only at L hd
 subst L hd
 have hl:=r.length
 have O:j<its.toArray.size:=by
  have:=(aaf.mp G).1
  simp
  omega
 have at_:∀m z,xs[m]?=some z->∃w,its[m]?=some w/\RelV z w:=fun m z e=>r.get e
 have flat:∀z∈xs,jK z=true:=ab3.mp fx
 refine call_meets ag4 pl.typeIs PySem.F.entry_tuple_index (PySem.F.args_tuple_index_2 _ _) (yX p its.toArray n od sl u (Gw y) j O ?_ ?_) ⟨V,fun w Z=>jL ru fy r fx w (by simpa using Z),⟨.int j,H,I.tok _,⟨_,rfl⟩,q⟩⟩
 ·obtain⟨w,F,GS⟩:=at_ j z G
  have e:its.toArray[j]=w:=by
   have:=(aaf.mp F).2
   simpa using this
  rw [e,BY GS (flat z (acm G))]
  exact hz
 ·intro m hm J
  have B:m<xs.length:=by simp at hm;omega
  obtain⟨w,F,GS⟩:=at_ m xs[m] (Ge9 B)
  have e:its.toArray[m]=w:=by
   have:=(aaf.mp F).2
   simpa using this
  rw [e,BY GS (flat _ (aan B))]
  exact Ml m _ J (Ge9 B)
end
end L2
namespace cE
open PySem
noncomputable abbrev fM:Str:="abcdefghijklmnopqrstuvwxyz"
noncomputable abbrev kj:Str:="ABCDEFGHIJKLMNOPQRSTUVWXYZ"
noncomputable abbrev Nh:Str:="0123456789"
noncomputable def bu (c:Nat):Bool:=decide (c∈fM.cps.toList) || (decide (c∈kj.cps.toList) || decide (c∈Nh.cps.toList))
noncomputable def Ni (c:Nat):Bool:=c == 40 || (c == 41 || c == 44)
noncomputable def shut (cur:List Nat) (r:List (List Nat)):List (List Nat):=if cur=[] then r else cur::r
noncomputable def bY:List Nat->List Nat->List (List Nat)
 | [],cur=>shut cur []
 | c::r,cur=>if bu c=true then bY r (cur++[c]) else shut cur (if c=32 then bY r [] else [c]::bY r [])
noncomputable def toks (l:List Nat):List (List Nat):=bY l []
theorem wb:∀(n r cur:List Nat),n.all bu=true->bY (n++r) cur=bY r (cur++n)
 | [],r,cur,_=>by simp
 | c::n,r,cur,h=>by
  rw [ab6,abg] at h
  rw [aeR]
  show(if bu c=true then bY (n++r) (cur++[c]) else _)=_
  rw [if_pos h.1,wb n r _ h.2,abH]
  rfl
def oI:List Nat->Prop
 | []=>True
 | c::_=>bu c=false
theorem G4 {r cur:List Nat} (hs:oI r) (z:cur≠[]):bY r cur=cur::toks r:=by
 cases r with
 | nil =>
  show shut cur []=cur::shut [] []
  unfold shut
  rw [if_neg z,if_pos rfl]
 | cons c r =>
  have q:bu c=false:=hs
  show(if bu c=true then _ else shut cur _)=cur::(if bu c=true then _ else shut [] _)
  rw [q,if_neg aaZ,if_neg aaZ]
  unfold shut
  rw [if_neg z,if_pos rfl]
theorem d8 {n r:List Nat} (hn:n.all bu=true) (h0:n≠[]) (hs:oI r):toks (n++r)=n::toks r:=by
 unfold toks
 rw [wb n r [] hn,aca,G4 hs h0]
 rfl
theorem qy:bu 32=false:=by decide +kernel
theorem Jo:bu 40=false:=by decide +kernel
theorem Jp:bu 41=false:=by decide +kernel
theorem wc:bu 44=false:=by decide +kernel
theorem ff (r:List Nat):toks (32::r)=toks r:=by
 show(if bu 32=true then bY r ([]++[32]) else shut [] (if (32:Nat)=32 then bY r [] else [32]::bY r []))=bY r []
 rw [qy,if_neg aaZ,if_pos rfl]
 rfl
theorem oh {c:Nat} (q:Ni c=true) (r:List Nat):toks (c::r)=[c]::toks r:=by
 have e:c=40\/c=41\/c=44:=by
  unfold Ni at q
  simpa using q
 have ha:bu c=false:=by
  rcases e with e|e|e <;> rw [e]
  ·exact Jo
  ·exact Jp
  ·exact wc
 have z:c≠32:=by omega
 show(if bu c=true then _ else shut [] (if c=32 then bY r [] else [c]::bY r []))=_
 rw [ha,if_neg aaZ,if_neg z]
 rfl
theorem gJ:∀(k:Nat) (r:List Nat),toks (abL k 32++r)=toks r
 | 0,r=>rfl
 | k+1,r=>by
  rw [aeV,aeR,ff,gJ k r]
theorem B7 (k:Nat) {r:List Nat} (h:oI r):oI (abL k 32++r):=by
 cases k with
 | zero=>exact h
 | succ k=>exact qy
noncomputable def bT (l:List Nat):Nat:=(l.takeWhile bu).length
theorem wd {l:List Nat} (h:bT l≠0):toks l=l.take (bT l)::toks (l.drop (bT l)):=by
 have e:l=l.takeWhile bu++l.dropWhile bu:=(List.takeWhile_append_dropWhile).symm
 have F:l.take (bT l)=l.takeWhile bu:=by
  unfold bT
  conv=>lhs;arg 2;rw [e]
  rw [List.take_left']
  rfl
 have B:l.drop (bT l)=l.dropWhile bu:=by
  unfold bT
  conv=>lhs;arg 2;rw [e]
  rw [List.drop_left']
  rfl
 rw [F,B]
 conv=>lhs;rw [e]
 refine d8 ?_ ?_ ?_
 ·exact List.all_takeWhile
 ·intro z
  unfold bT at h
  rw [z] at h
  exact h rfl
 ·cases q:l.dropWhile bu with
  | nil=>trivial
  | cons c r =>
   have z:=List.head_dropWhile_not (p:=bu) (l:=l) (by rw [q];simp)
   simp only [q,List.head_cons] at z
   exact z
theorem B8 {c:Nat} {r:List Nat} (h:bT (c::r)=0):bu c=false:=by
 unfold bT at h
 rw [agz] at h
 cases q:bu c with
 | false=>rfl
 | true=>rw [q] at h;simp at h
noncomputable def aI (p:List Nat):Bool:=decide (1<=p.length) && (decide (p.length<=12) && p.all bu)
noncomputable def g9:List (List Nat)->Option (List (List Nat) × Nat)
 | n::m::r=>if aI n=true then (if m=[41] then some ([n],2) else if m=[44] then (g9 r).map fun q=>(n::q.1,q.2+2) else none) else none
 | _=>none
noncomputable def between:List (List Nat)->List (List Nat)
 | []=>[]
 | [a]=>[a,[41]]
 | a::r=>a::[44]::between r
theorem oJ:∀(as:List (List Nat)),as≠[]->(∀a∈as,aI a=true)->g9 (between as)=some (as,(between as).length)
 | [],h,_=>absurd rfl h
 | [a],_,hn=>by
  show(if aI a=true then (if ([41]:List Nat)=[41] then some ([a],2) else _) else none)=_
  rw [if_pos (hn a (by simp)),if_pos rfl]
  rfl
 | a::b::r,_,hn=>by
  have ih:=oJ (b::r) (by simp) fun x z=>hn x (aam _ z)
  show(if aI a=true then (if ([44]:List Nat)=[41] then _ else if ([44]:List Nat)=[44] then (g9 (between (b::r))).map (fun q=>(a::q.1,q.2+2)) else none) else none)=_
  rw [if_pos (hn a (by simp)),if_neg (by decide),if_pos rfl,ih]
  rfl
end cE
namespace Bk
open PySem L2 cE
abbrev Cs:=List Nat
noncomputable abbrev S (p:Cs):Str:=⟨p.toArray⟩
noncomputable abbrev tx (p:Cs):V:=.str (S p)
theorem cz (p:Cs):(S p).cps.toList=p:=by simp
theorem KA (x:Str):S x.cps.toList=x:=by cases x;simp
theorem aY (p:Cs):(S p).length=p.length:=by simp [Str.length]
theorem Ca (x:Str):x.cps.toList.length=x.length:=by simp [Str.length]
theorem oK {a b:Cs} (h:S a=S b):a=b:=by
 have e:=congrArg (fun s:Str=>s.cps.toList) h
 simpa using e
theorem Nj {a b:Cs} (h:tx a=tx b):a=b:=by
 have z:S a=S b:=by injection h
 exact oK z
theorem mz (a b:Cs):decide (tx a=tx b)=decide (a=b):=by
 rw [decide_eq_decide]
 exact⟨Nj,fun e=>by rw [e]⟩
structure Fc where
 k:Cs
 as:List Cs
structure Kd where
 n:Cs
 c:Nat
 l:Bool
structure Lk where
 same:Bool
 l:Cs
 r:Cs
structure Rl where
 title:Cs
 take:List Fc
 keep:List Fc
 aT:List Lk
 put:List Fc
 tell:List (Cs × Cs)
structure Kp (H0 H H':Hp):Prop where
 new:∀b o,H0 b=none->H b=some o->H' b=some o
 tup:∀b xs,H b=some (.tup xs)->H' b=some (.tup xs)
 jY:∀b o u,H b=some (.jY o u)->H' b=some (.jY o u)
 yK:∀b,H' b=none->H b=none
theorem Kp.trans {H0 H H1 U:Hp} (a:Kp H0 H H1) (b:Kp H0 H1 U):Kp H0 H U :=
 ⟨fun c o n h=>b.new c o n (a.new c o n h),fun c xs h=>b.tup c xs (a.tup c xs h),fun c o u h=>b.jY c o u (a.jY c o u h),fun c h=>a.yK c (b.yK c h)⟩
theorem Kp.same {H0 H H':Hp} (s:ah H H'):Kp H0 H H':=⟨fun b o _ h=>s b o h,fun b xs h=>s b _ h,fun b o u h=>s b _ h,fun b h=>by
 cases e:H b with
 | none=>rfl
 | some o=>rw [s b o e] at h;cases h⟩
theorem Kp.upd {H0 H:Hp} {l:aay} {o o' q:HO} (h0:H0 l=some q) (h:H l=some o) (nt:∀xs,o≠.tup xs) (nf:∀ob u,o≠.jY ob u):Kp H0 H (upd H l o'):=by
 refine⟨fun b u n e=>?_,fun b xs e=>?_,fun b ob u e=>?_,fun b e=>?_⟩
 ·rw [aD (fun z=>by rw [z,h0] at n;cases n)];exact e
 ·rw [aD (fun z=>by rw [z,h] at e;exact nt xs (abA e))];exact e
 ·rw [aD (fun z=>by rw [z,h] at e;exact nf ob u (abA e))];exact e
 ·by_cases z:b=l
  ·rw [z,aj] at e;cases e
  ·rw [aD z] at e;exact e
theorem bH.keep {K:aaa} {H0 H H':Hp} (k:Kp H0 H H') {a:aay} {xs:List V} (h:bH K H a xs):bH K H' a xs:=by
 rcases h with(h|⟨o,h⟩)|h
 ·exact .inl (.inl (k.tup _ _ h))
 ·exact .inl (.inr ⟨o,k.jY _ _ _ h⟩)
 ·exact .inr h
def Fact (K:aaa) (H:Hp) (f:Fc) (v:V):Prop:=∃t q,v=.ref t/\bH K H t [tx f.k,.ref q]/\bH K H q (f.as.map tx)
def Kind (K:aaa) (H:Hp) (k:Kd) (v:V):Prop:=∃t,v=.ref t/\bH K H t [tx k.n,.int k.c,.bl k.l]
def Pair (K:aaa) (H:Hp) (p:Cs × Cs) (v:V):Prop:=∃t,v=.ref t/\bH K H t [tx p.1,tx p.2]
theorem Fact.keep {K:aaa} {H0 H H':Hp} {f:Fc} {v:V} (k:Kp H0 H H') (h:Fact K H f v):Fact K H' f v:=by
 obtain⟨t,q,e,h1,h2⟩:=h
 exact⟨t,q,e,bH.keep k h1,bH.keep k h2⟩
theorem Kind.keep {K:aaa} {H0 H H':Hp} {f:Kd} {v:V} (k:Kp H0 H H') (h:Kind K H f v):Kind K H' f v:=by
 obtain⟨t,e,h1⟩:=h
 exact⟨t,e,bH.keep k h1⟩
theorem Pair.keep {K:aaa} {H0 H H':Hp} {p:Cs × Cs} {v:V} (k:Kp H0 H H') (h:Pair K H p v):Pair K H' p v:=by
 obtain⟨t,e,h1⟩:=h
 exact⟨t,e,bH.keep k h1⟩
def yL (α:Type) (R:Hp->α->V->Prop) (H0 H:Hp) (v:V) (xs:List α):Prop:=∃l vs,v=.ref l/\H0 l=none/\H l=some (.lst vs)/\Paired (R H) xs vs
theorem yL.keep {α:Type} {R:Hp->α->V->Prop} {H0 H H':Hp} {v:V} {xs:List α} (k:Kp H0 H H') (q:∀a u,R H a u->R H' a u) (h:yL α R H0 H v xs):yL α R H0 H' v xs:=by
 obtain⟨l,vs,e,n,h1,h2⟩:=h
 exact⟨l,vs,e,n,k.new _ _ n h1,L2.Paired.bA h2 q⟩
theorem yL.cM {α:Type} {R:Hp->α->V->Prop} {H0 H1 H:Hp} {v:V} {xs:List α} (d:∀b,H1 b=none->H0 b=none) (h:yL α R H1 H v xs):yL α R H0 H v xs:=by
 obtain⟨l,vs,e,n,h1,h2⟩:=h
 exact⟨l,vs,e,d l n,h1,h2⟩
def Ins (C:aay) (H0 H:Hp) (v:V) (F:List (Str × V)->Prop):Prop:=∃a dx fs,v=.ref a/\H0 a=none/\H a=some (.ins C dx fs)/\F fs
structure Cl where
 same:aay
 unlike:aay
 rule:aay
 book:aay
noncomputable def Cl.look (c:Cl) (b:Bool):aay:=if b=true then c.same else c.unlike
def qz (c:Cl) (H0 H:Hp) (k:Lk) (v:V):Prop:=Ins (c.look k.same) H0 H v fun fs=>fs.lookup ("left":Str)=some (tx k.l)/\fs.lookup ("right":Str)=some (tx k.r)/\fs.lookup ("holds":Str)=none/\fs.lookup ("word":Str)=none
theorem qz.keep {c:Cl} {H0 H H':Hp} {x:Lk} {v:V} (k:Kp H0 H H') (h:qz c H0 H x v):qz c H0 H' x v:=by
 obtain⟨a,dx,fs,e,n,h1,h2⟩:=h
 exact⟨a,dx,fs,e,n,k.new _ _ n h1,h2⟩
noncomputable def great (x:Cs):Bool:=decide (x.headD 0∈kj.cps.toList)
noncomputable def once:List Cs->List Cs->List Cs
 | [],acc=>acc
 | x::r,acc=>once r (if x∈acc then acc else acc++[x])
noncomputable def opens (fs:List Fc):List Cs:=once ((fs.flatMap (·.as)).filter great) []
def Facts (K:aaa):=yL Fc (Fact K)
def Pairs (K:aaa):=yL (Cs × Cs) (Pair K)
def Kinds (K:aaa):=yL Kd (Kind K)
def ue (H0 H:Hp) (v:V) (xs:List Cs):Prop:=∃l,v=.ref l/\H0 l=none/\H l=some (.lst (xs.map tx))
def Looks (c:Cl) (H0 H:Hp) (v:V) (xs:List Lk):Prop:=∃l vs,v=.ref l/\H0 l=none/\H l=some (.lst vs)/\Paired (qz c H0 H) xs vs
structure qA (K:aaa) (c:Cl) (H0 H:Hp) (r:Rl) (fs:List (Str × V)):Prop where
 title:fs.lookup ("title":Str)=some (tx r.title)
 taken:∃v,fs.lookup ("taken":Str)=some v/\Facts K H0 H v r.take
 kept:∃v,fs.lookup ("kept":Str)=some v/\Facts K H0 H v r.keep
 aT:∃v,fs.lookup ("looks":Str)=some v/\Looks c H0 H v r.aT
 given:∃v,fs.lookup ("given":Str)=some v/\Facts K H0 H v r.put
 told:∃v,fs.lookup ("told":Str)=some v/\Pairs K H0 H v r.tell
 names:∃v,fs.lookup ("names":Str)=some v/\ue H0 H v (opens (r.take++r.keep))
 calls:fs.lookup ("calls":Str)=none
def hV (K:aaa) (c:Cl) (H0 H:Hp) (r:Rl) (v:V):Prop:=Ins c.rule H0 H v (qA K c H0 H r)
theorem ue.keep {H0 H H':Hp} {v:V} {xs:List Cs} (k:Kp H0 H H') (h:ue H0 H v xs):ue H0 H' v xs:=by
 obtain⟨l,e,n,h1⟩:=h
 exact⟨l,e,n,k.new _ _ n h1⟩
theorem Looks.keep {c:Cl} {H0 H H':Hp} {v:V} {xs:List Lk} (k:Kp H0 H H') (h:Looks c H0 H v xs):Looks c H0 H' v xs:=by
 obtain⟨l,vs,e,n,h1,h2⟩:=h
 exact⟨l,vs,e,n,k.new _ _ n h1,L2.Paired.bA h2 fun _ _ z=>z.keep k⟩
theorem Facts.keep {K:aaa} {H0 H H':Hp} {v:V} {xs:List Fc} (k:Kp H0 H H') (h:Facts K H0 H v xs):Facts K H0 H' v xs:=yL.keep k (fun _ _ z=>z.keep k) h
theorem Pairs.keep {K:aaa} {H0 H H':Hp} {v:V} {xs:List (Cs × Cs)} (k:Kp H0 H H') (h:Pairs K H0 H v xs):Pairs K H0 H' v xs:=yL.keep k (fun _ _ z=>z.keep k) h
theorem Kinds.keep {K:aaa} {H0 H H':Hp} {v:V} {xs:List Kd} (k:Kp H0 H H') (h:Kinds K H0 H v xs):Kinds K H0 H' v xs:=yL.keep k (fun _ _ z=>z.keep k) h
theorem qA.keep {K:aaa} {c:Cl} {H0 H H':Hp} {r:Rl} {fs:List (Str × V)} (k:Kp H0 H H') (h:qA K c H0 H r fs):qA K c H0 H' r fs:=by
 obtain⟨h1,⟨v2,q,h2⟩,⟨v3,z,L⟩,⟨v4,B,O⟩,⟨v5,F,Y⟩,⟨v6,G,Z⟩,⟨v7,J,h7⟩,h8⟩:=h
 exact⟨h1,⟨v2,q,h2.keep k⟩,⟨v3,z,L.keep k⟩,⟨v4,B,O.keep k⟩,⟨v5,F,Y.keep k⟩,⟨v6,G,Z.keep k⟩,⟨v7,J,h7.keep k⟩,h8⟩
theorem hV.keep {K:aaa} {c:Cl} {H0 H H':Hp} {r:Rl} {v:V} (k:Kp H0 H H') (h:hV K c H0 H r v):hV K c H0 H' r v:=by
 obtain⟨a,dx,fs,e,n,h1,h2⟩:=h
 exact⟨a,dx,fs,e,n,k.new _ _ n h1,h2.keep k⟩
def Rules (K:aaa) (c:Cl) (H0 H:Hp) (v:V) (xs:List Rl):Prop:=∃l vs,v=.ref l/\H0 l=none/\H l=some (.lst vs)/\Paired (hV K c H0 H) xs vs
structure WI (K:aaa) (c:Cl) (H0 H:Hp) (ks:List Kd) (rs:List Rl) (fs:List (Str × V)):Prop where
 kinds:∃v,fs.lookup ("kinds":Str)=some v/\Kinds K H0 H v ks
 rules:∃v,fs.lookup ("rules":Str)=some v/\Rules K c H0 H v rs
def we (K:aaa) (c:Cl) (H0 H:Hp) (ks:List Kd) (rs:List Rl) (v:V):Prop:=Ins c.book H0 H v (WI K c H0 H ks rs)
theorem Rules.keep {K:aaa} {c:Cl} {H0 H H':Hp} {v:V} {xs:List Rl} (k:Kp H0 H H') (h:Rules K c H0 H v xs):Rules K c H0 H' v xs:=by
 obtain⟨l,vs,e,n,h1,h2⟩:=h
 exact⟨l,vs,e,n,k.new _ _ n h1,L2.Paired.bA h2 fun _ _ z=>z.keep k⟩
theorem we.keep {K:aaa} {c:Cl} {H0 H H':Hp} {ks:List Kd} {rs:List Rl} {v:V} (k:Kp H0 H H') (h:we K c H0 H ks rs v):we K c H0 H' ks rs v:=by
 obtain⟨a,dx,fs,e,n,h1,⟨F,q,h2⟩,⟨G,z,B⟩⟩:=h
 exact⟨a,dx,fs,e,n,k.new _ _ n h1,⟨F,q,h2.keep k⟩,⟨G,z,B.keep k⟩⟩
noncomputable def br (p:Cs):Bool:=aI p && decide (p.headD 0∈fM.cps.toList)
inductive mB:List Cs->Fc->Prop
 | bare {k:Cs} (hk:br k=true):mB [k] ⟨k,[]⟩
 | empty {k:Cs} (hk:br k=true):mB [k,[40],[41]] ⟨k,[]⟩
 | args {k:Cs} {as:List Cs} (hk:br k=true) (h0:as≠[]) (h:∀a∈as,aI a=true):mB (k::[40]::between as) ⟨k,as⟩
inductive qB:List Cs->List Fc->Prop
 | one {ps:List Cs} {f:Fc} (h:mB ps f):qB ps [f]
 | more {ps r:List Cs} {f:Fc} {fs:List Fc} (h:mB ps f) (t:qB r fs):qB (ps++[44]::r) (f::fs)
noncomputable def cG (m:Cs):List Cs->List (List Cs)->List (List Cs)
 | [],rows=>rows
 | p::r,rows=>cG m r (if p=m then rows++[[]] else rows.dropLast++[rows.getLastD []++[p]])
noncomputable def glue (m:Cs):List (List Cs)->List Cs
 | []=>[]
 | [q]=>q
 | q::r=>q++m::glue m r
theorem mC {m:Cs}:∀(q a9:List Cs) (done:List (List Cs)) (cur:List Cs),m∉q->cG m (q++a9) (done++[cur])=cG m a9 (done++[cur++q])
 | [],a9,done,cur,_=>by rw [aca,abI]
 | p::q,a9,done,cur,h=>by
  have B:p≠m:=fun e=>h (by rw [e];exact aas)
  have F:m∉q:=fun z=>h (aam _ z)
  show cG m (q++a9) (if p=m then _ else (done++[cur]).dropLast++[(done++[cur]).getLastD []++[p]])=_
  rw [if_neg B,ahI,show(done++[cur]).getLastD []=cur by simp,mC q a9 done (cur++[p]) F,abH,ago]
theorem ik {m:Cs}:∀(qs:List (List Cs)) (done:List (List Cs)),qs≠[]->(∀q∈qs,m∉q)->cG m (glue m qs) (done++[[]])=done++qs
 | [],_,h,_=>absurd rfl h
 | [q],done,_,h=>by
  have e:=mC q [] done [] (h q (by simp))
  rw [abI] at e
  show cG m q _=_
  rw [e]
  rfl
 | q::q2::r,done,_,h=>by
  have e:=mC q (m::glue m (q2::r)) done [] (h q (by simp))
  show cG m (q++m::glue m (q2::r)) _=_
  rw [e]
  show cG m (glue m (q2::r)) (if m=m then (done++[[]++q])++[[]] else _)=_
  rw [if_pos rfl,ik (q2::r) (done++[[]++q]) (by simp) fun x z=>h x (aam _ z),aca,abH,ago]
noncomputable def ie (x:Str):Bool:=decide ((1:Int)<=x.length) && (decide ((x.length:Int)<=12) && x.cps.toList.all bu)
theorem qC (p:List Nat):ie (S p)=aI p:=by
 unfold ie aI
 rw [aY,cz]
 have q:decide ((1:Int)<=(p.length:Int))=decide (1<=p.length):=by
  rw [decide_eq_decide];omega
 have z:decide ((p.length:Int)<=12)=decide (p.length<=12):=by
  rw [decide_eq_decide];omega
 rw [q,z]
theorem qD {x:Str} (h:1<=x.length):r6 x.cps.toList (0:Int)=some (x.cps.toList.headD 0):=by
 have e:=Ca x
 cases q:x.cps.toList with
 | nil=>rw [q] at e;simp at e;omega
 | cons a r=>exact bE (j:=0) rfl
theorem Nk {x:Str} (h:ie x=true):1<=x.length:=by
 unfold ie at h
 simp only [abg,decide_eq_true_eq] at h
 omega
theorem sz {n:Nat} (h:n<=100000):n<=aaj:=by rw [aaz];omega
theorem jg {n:Nat} (h:n<=100000):n<aaj:=by rw [aaz];omega
theorem ai {H:Hp} {p:aay} (h:H p=none) (o:HO):ah H (upd H p o):=fun b u q=>by rw [aD (aO q h)];exact q
theorem aW {H:Hp} {a:aay} {o:HO} (_:ah H (upd H a o)):upd H a o a=some o:=aj
theorem ah.ba {H H':Hp} {p:aay} (e:ah H H') (h:H p=none) (o:HO):ah H (upd H' p o):=fun b u q=>by
 rw [aD (aO q h)]
 exact e b u q
theorem mid {a b:Int} (h:0<b):0<=a % b/\a % b<b:=⟨Int.emod_nonneg a (by omega),Int.emod_lt_of_pos a h⟩
theorem getD_get {l:List Nat} {i:Nat} (h:i<l.length):l[i]?=some (l.getD i 0):=by
 rw [Gd9,Ge9 h]
 rfl
theorem EF {l:List Nat} {i:Nat} (h:i<l.length):l.drop i=l.getD i 0::l.drop (i+1):=by
 rw [aeJ h,Gd9,Ge9 h]
 rfl
theorem Nl {x:Str} {i:Int} (h0:0<=i) (h1:i<x.length):r6 x.cps.toList i=some (x.cps.toList.getD i.toNat 0):=by
 have hl:=Ca x
 have hk:i.toNat<x.cps.toList.length:=by omega
 have z:=bE (xs:=x.cps.toList) (j:=i.toNat) (v:=x.cps.toList.getD i.toNat 0) (getD_get hk)
 rw [show((i.toNat:Nat):Int)=i by omega] at z
 exact z
noncomputable def km (x:Str):Bool:=ie x && decide (x.cps.toList.headD 0∈fM.cps.toList)
theorem EG (p:List Nat):km (S p)=br p:=by
 unfold km br
 rw [qC,cz]
def G5:Sp:=fun vs H Q _=>∃c,vs=[.str ⟨#[c]⟩]/\Q (.bl (bu c)) H
def EH (f:Str->Bool):Sp:=fun vs H Q _=>∃x,vs=[.str x]/\x.length<=20000/\∀H',ah H H'->Q (.bl (f x)) H'
def vz:Sp:=fun vs H Q _=>∃p:Cs,vs=[tx p]/\p≠[]/\p.length<=1000/\Q (.bl (great p)) H
def R5:Sp:=fun vs H Q _=>∃(x:Str) (p:Nat),vs=[.str x,.int p]/\x.length<=20000/\p<=x.length/\Q (.int ((p+bT (x.cps.toList.drop p):Nat):Int)) H
noncomputable def yY (m:Str) (c:Nat):Bool:=bu c || (decide (c∈m.cps.toList) || c == 32)
def EI:Sp:=fun vs H Q _=>∃x m,vs=[.str x,.str m]/\x.length<=20000/\32∉m.cps.toList/\x.cps.toList.all (yY m)=true/\∀(l:aay) (H':Hp),ah H H'->H l=none->H' l=some (.lst ((toks x.cps.toList).map tx))->Q (.ref l) H'
def vA:Sp:=fun vs H Q _=>∃(l:aay) (ps:List Cs) (p:Nat),vs=[.ref l,.int p]/\H l=some (.lst (ps.map tx))/\ps.length<=20000/\Q (tx (ps.getD p [])) H
def Nm:Sp:=fun vs H Q _=>∃(l:aay) (ps:List Cs) (p n:Nat) (as:List Cs),vs=[.ref l,.int p]/\H l=some (.lst (ps.map tx))/\ps.length<=20000 /\
 ((as=[]/\n=1/\ps.getD p []=[41])\/(ps.getD p []≠[41]/\g9 (ps.drop p)=some (as,n))) /\
 ∀(t q:aay) (H':Hp),ah H H'->H' t=some (.tup [.ref q,.int ((p+n:Nat):Int)])->H' q=some (.tup (as.map tx))->Q (.ref t) H'
inductive mE:List Cs->Cs->List Cs->Nat->Prop
 | bare {k:Cs} {r:List Cs} (hk:br k=true) (h:r.getD 0 []≠[40]):mE (k::r) k [] 1
 | empty {k:Cs} {r:List Cs} (hk:br k=true):mE (k::[40]::[41]::r) k [] 3
 | args {k:Cs} {r as:List Cs} {n:Nat} (hk:br k=true) (h0:r.getD 0 []≠[41]) (h:g9 r=some (as,n)):mE (k::[40]::r) k as (n+2)
def EJ:Sp:=fun vs H Q _=>∃(l:aay) (ps:List Cs) (p n:Nat) (k:Cs) (as:List Cs),vs=[.ref l,.int p]/\H l=some (.lst (ps.map tx))/\ps.length<=20000/\mE (ps.drop p) k as n /\
 ∀(t q z:aay) (H':Hp),ah H H'->H' t=some (.tup [.ref q,.int ((p+n:Nat):Int)])->H' q=some (.tup [tx k,.ref z])->H' z=some (.tup (as.map tx))->Q (.ref t) H'
theorem G6 (l:List Nat):bT l<=l.length:=by
 unfold bT
 exact(List.takeWhile_sublist bu).length_le
theorem Cb (c:Nat) (r:List Nat):bT (c::r)=if bu c=true then bT r+1 else 0:=by
 unfold bT
 rw [agz]
 split <;> simp
theorem sh:∀(l cur:List Nat),(bY l cur).length<=l.length+(if cur=[] then 0 else 1)
 | [],cur=>by
  show(shut cur []).length<=_
  unfold shut
  by_cases h:cur=[] <;> simp [h]
 | c::r,cur=>by
  show(if bu c=true then bY r (cur++[c]) else shut cur (if c=32 then bY r [] else [c]::bY r [])).length<=_
  have q:=sh r (cur++[c])
  have z:=sh r []
  rw [if_neg (by simp)] at q
  rw [if_pos rfl] at z
  by_cases ha:bu c=true
  ·rw [if_pos ha,aal]
   omega
  ·rw [if_neg ha,aal]
   unfold shut
   by_cases h:cur=[] <;> by_cases h2:c=32 <;> simp [h,h2] <;> omega
theorem EK (l:List Nat):(toks l).length<=l.length:=by
 have e:=sh l []
 rw [if_pos rfl] at e
 exact e
theorem wj {c:Nat} (ha:bu c=false) (q:c≠32) (r:List Nat):toks (c::r)=[c]::toks r:=by
 show(if bu c=true then bY r ([]++[c]) else shut [] (if c=32 then bY r [] else [c]::bY r []))=_
 rw [ha,if_neg (by simp),if_neg q]
 rfl
theorem Qk {x:Str} {p n:Nat} (h:p+n<=x.length):aib x (some (p:Int)) (some ((p+n:Nat):Int))=S ((x.cps.toList.drop p).take n):=by
 have e:=Kv (z:=x) (i:=p) (j:=((p+n:Nat):Int)) (by omega) (by omega) (by omega)
 rw [<- KA (aib x (some (p:Int)) (some ((p+n:Nat):Int))),e,show((p:Int)).toNat=p by omega,show(((p+n:Nat):Int) - (p:Int)).toNat=n by omega]
theorem iy {l:List Cs} {p i:Nat}:(l.drop p).getD i []=l.getD (p+i) []:=by
 rw [Gd9,Gd9,agb]
theorem KC {l as:List Cs} {n:Nat} (h:g9 l=some (as,n)):∃nm mk r,l=nm::mk::r/\aI nm=true/\((mk=[41]/\as=[nm]/\n=2)\/(mk=[44]/\∃as' B,g9 r=some (as',B)/\as=nm::as'/\n=B+2)):=by
 match l,h with
 | nm::mk::r,h =>
  refine⟨nm,mk,r,rfl,?_⟩
  have h':(if aI nm=true then (if mk=[41] then some ([nm],2) else if mk=[44] then (g9 r).map (fun q=>(nm::q.1,q.2+2)) else none) else none)=some (as,n):=h
  by_cases hn:aI nm=true
  ·rw [if_pos hn] at h'
   refine⟨hn,?_⟩
   by_cases h1:mk=[41]
   ·rw [if_pos h1] at h'
    injection h' with h'
    injection h' with a b
    exact .inl ⟨h1,a.symm,b.symm⟩
   ·rw [if_neg h1] at h'
    by_cases h2:mk=[44]
    ·rw [if_pos h2] at h'
     cases q:g9 r with
     | none=>rw [q] at h';cases h'
     | some z =>
      rw [q] at h'
      injection h' with h'
      injection h' with a b
      exact .inr ⟨h2,z.1,z.2,rfl,a.symm,b.symm⟩
    ·rw [if_neg h2] at h'
     cases h'
  ·rw [if_neg hn] at h'
   cases h'
 | [_],h=>exact nomatch h
 | [],h=>exact nomatch h
theorem Np {a b:Cs} (h:a≠b):decide (tx a=tx b)=false:=decide_eq_false fun z=>h (Nj z)
def Jq (x m:Str) (l:aay) (H:Hp) (n:Nat) (σ:St) (H':Hp):Prop:=∃(p:Nat) (done:List Cs) (q z:Option V),n=x.length - p/\σ=[some (.str x),some (.str m),some (.ref l),some (.int p),q,z]/\p<=x.length/\ah H H'/\H' l=some (.lst (done.map tx))/\done++toks (x.cps.toList.drop p)=toks x.cps.toList
def R6 (l ln:aay) (ps as:List Cs) (e:Nat) (H:Hp) (m:Nat) (σ:St) (H':Hp):Prop:=∃(p n:Nat) (done as':List Cs) (q z:Option V),m=(ps.drop p).length/\σ=[some (.ref l),some (.int p),some (.ref ln),q,z]/\ah H H'/\H' l=some (.lst (ps.map tx))/\H' ln=some (.lst (done.map tx))/\g9 (ps.drop p)=some (as',n)/\done++as'=as/\p+n=e/\done.length+(ps.drop p).length<=20000
theorem gk {p:Cs} (h:aI p=true):1<=p.length/\p.length<=12:=by
 unfold aI at h
 simp only [abg,decide_eq_true_eq] at h
 exact⟨h.1,h.2.1⟩
theorem fh {p:Cs} (h:br p=true):1<=p.length/\p.length<=12:=by
 unfold br at h
 simp only [abg] at h
 exact gk h.1
theorem mB.at {ps:List Cs} {f:Fc} (h:mB ps f) {r:List Cs} (hr:r.getD 0 []≠[40]):mE (ps++r) f.k f.as ps.length:=by
 cases h with
 | bare hk=>exact .bare hk hr
 | empty hk=>exact .empty hk
 | @args k as hk h0 h =>
  have e:=oJ as h0 h
  have B:∀(as:List Cs) (r:List Cs),as≠[]->(∀a∈as,aI a=true)->g9 (between as++r)=some (as,(between as).length):=by
   intro as
   induction as with
   | nil=>intro r z;exact absurd rfl z
   | cons a t ih =>
    intro r _ ha
    cases t with
    | nil =>
     show g9 (a::[41]::r)=some ([a],2)
     show(if aI a=true then (if ([41]:Cs)=[41] then some ([a],2) else _) else none)=_
     rw [if_pos (ha a (by simp)),if_pos rfl]
    | cons b t =>
     have ih':=ih r (by simp) fun x J=>ha x (aam _ J)
     show g9 (a::[44]::(between (b::t)++r))=some (a::b::t,(between (b::t)).length+2)
     show(if aI a=true then (if ([44]:Cs)=[41] then some ([a],2) else if ([44]:Cs)=[44] then (g9 (between (b::t)++r)).map (fun q=>(a::q.1,q.2+2)) else none) else none)=_
     rw [if_pos (ha a (by simp)),if_neg (by decide),if_pos rfl,ih']
     rfl
  have F:=B as r h0 h
  have n41:(between as++r).getD 0 []≠[41]:=by
   cases as with
   | nil=>exact absurd rfl h0
   | cons a t =>
    have ha:=h a (by simp)
    have G:(between (a::t)++r).getD 0 []=a:=by cases t <;> rfl
    rw [G]
    intro z
    rw [z] at ha
    exact absurd ha (by decide +kernel)
  have z:=mE.args hk n41 F
  show mE (k::[40]::(between as++r)) k as ((between as).length+2)
  exact z
theorem mB.pos {ps:List Cs} {f:Fc} (h:mB ps f):1<=ps.length:=by
 cases h <;> simp
theorem qB.pos {ps:List Cs} {fs:List Fc} (h:qB ps fs):1<=ps.length:=by
 cases h with
 | one h=>exact h.pos
 | more h t=>rw [aab];have:=h.pos;omega
theorem qB.head {ps:List Cs} {fs:List Fc} (h:qB ps fs):∃(f:Fc) (n:Nat) (j3:List Fc),fs=f::j3/\mE ps f.k f.as n/\((n=ps.length/\j3=[])\/(n<ps.length/\ps.getD n []=[44]/\qB (ps.drop (n+1)) j3)):=by
 cases h with
 | @one _ f h =>
  have z:=h.at (r:=[]) (by simp)
  rw [abI] at z
  exact⟨f,ps.length,[],rfl,z,.inl ⟨rfl,rfl⟩⟩
 | @more ps r f fs h t =>
  refine⟨f,ps.length,fs,rfl,h.at (by simp),.inr ⟨by simp,?_,?_⟩⟩
  ·rw [Gd9,agC (aar _)]
   simp
  ·have e:(ps++[44]::r).drop (ps.length+1)=r:=by
    rw [<- agk,List.drop_left]
    rfl
   rw [e]
   exact t
def R7 (K:aaa):Sp:=fun vs H Q _=>∃(l:aay) (ps:List Cs) (fs:List Fc),vs=[.ref l]/\H l=some (.lst (ps.map tx))/\ps.length<=20000/\qB ps fs/\∀v H',ah H H'->Facts K H H' v fs->Q v H'
def WJ (K:aaa) (l lf:aay) (ps:List Cs) (fs:List Fc) (H:Hp) (m:Nat) (σ:St) (H':Hp):Prop:=∃(p:Nat) (done a9:List Fc) (vs:List V) (q:Option V),m=(ps.drop p).length/\σ=[some (.ref l),some (.ref lf),some (.int p),q]/\ah H H'/\H' l=some (.lst (ps.map tx))/\H' lf=some (.lst vs)/\Paired (Fact K H') done vs/\qB (ps.drop p) a9/\done++a9=fs/\done.length+(ps.drop p).length<=20000
noncomputable def dh:List Cs->Cs
 | []=>[]
 | [a]=>a
 | a::r=>a++10::dh r
noncomputable def oA:Cs->List Cs
 | []=>[[]]
 | c::r=>if c=10 then []::oA r else match oA r with
  | []=>[[c]]
  | q::qs=>(c::q)::qs
theorem Zm:∀p,oA p≠[]
 | []=>by simp [oA]
 | c::r=>by
  unfold oA
  split
  ·simp
  ·split <;> simp
theorem EL:∀(a r:Cs),10∉a->oA (a++10::r)=a::oA r
 | [],r,_=>by
  show(if 10=10 then []::oA r else _)=_
  rw [if_pos rfl]
 | c::a,r,h=>by
  have B:c≠10:=fun e=>h (by rw [e];exact aas)
  have ih:=EL a r fun z=>h (aam _ z)
  show(if c=10 then []::oA (a++10::r) else match oA (a++10::r) with|[]=>[[c]]|q::qs=>(c::q)::qs)=_
  rw [if_neg B,ih]
theorem EM:∀(a:Cs),10∉a->oA a=[a]
 | [],_=>rfl
 | c::a,h=>by
  have B:c≠10:=fun e=>h (by rw [e];exact aas)
  have ih:=EM a fun z=>h (aam _ z)
  show(if c=10 then []::oA a else match oA a with|[]=>[[c]]|q::qs=>(c::q)::qs)=_
  rw [if_neg B,ih]
theorem si:∀(ls:List Cs),ls≠[]->(∀l∈ls,10∉l)->oA (dh ls)=ls
 | [],h,_=>absurd rfl h
 | [a],_,h=>EM a (h a (by simp))
 | a::b::r,_,h=>by
  show oA (a++10::dh (b::r))=_
  rw [EL a _ (h a (by simp)),si (b::r) (by simp) fun l hl=>h l (aam _ hl)]
theorem EN:∀(ls:List Str),(ahe ⟨#[10]⟩ ls).cps.toList=dh (ls.map fun s=>s.cps.toList)
 | []=>rfl
 | [a]=>rfl
 | a::b::r=>by
  have ih:=EN (b::r)
  show((a++(⟨#[10]⟩:Str))++ahe ⟨#[10]⟩ (b::r)).cps.toList=_
  rw [adg,adg,ih]
  show(a.cps.toList++[10])++_=a.cps.toList++10::_
  simp
theorem Nq (x:Str):af9 x ⟨#[10]⟩≠[]:=by
 unfold af9
 split
 ·simp
 ·split
  ·simp
  ·intro h
   have e:=congrArg adO h
   rw [PyProof.Rows.len_partsBetween] at e
   simp at e
theorem EO {ls:List Cs} (h0:ls≠[]) (h:∀l∈ls,10∉l):af9 (S (dh ls)) (aad "\n")=ls.map S:=by
 have F:(aad "\n")=⟨#[10]⟩:=by decide +kernel
 rw [F]
 have q:=StrLaws.join_split (S (dh ls)) ⟨#[10]⟩
 have B:=StrLaws.split_free (S (dh ls)) 10
 have hn:=Nq (S (dh ls))
 generalize af9 (S (dh ls)) ⟨#[10]⟩=ts at q B hn
 have G:dh (ts.map fun s=>s.cps.toList)=dh ls:=by
  rw [<- EN,q]
 have z:=congrArg oA G
 rw [si ls h0 h,si _ (by simpa using hn) (by
  intro l hl
  obtain⟨t,L,rfl⟩:=aaw.mp hl
  exact B t L)] at z
 rw [<- z,abY]
 have J:(S ∘ fun s:Str=>s.cps.toList)=id:=by
  funext s
  exact KA s
 rw [J,aep]
noncomputable def told (p:Cs):Bool:=match p.dropWhile (· == 32) with
 | []=>false
 | c::_=>!(c == 35)
theorem Jr (f:Nat->Bool):∀(l:Cs),l.drop (l.takeWhile f).length=l.dropWhile f
 | []=>rfl
 | a::r=>by
  rw [agz,aeW]
  by_cases h:f a=true
  ·rw [if_pos h,if_pos h]
   exact Jr f r
  ·rw [if_neg h,if_neg h]
   rfl
theorem Nr (p:Cs):∃q:Cs,ahL (S p) (aad " ")=S q/\q.length<=p.length/\q.head?=(p.dropWhile (· == 32)).head?:=by
 have L:(aad " ").cps.contains=fun c=>c == 32:=by
  funext c
  have e:(aad " ").cps = #[32]:=by decide +kernel
  rw [e]
  simp [ahy]
 unfold ahL
 rw [L,PyProof.Rows.stripBy_eq]
 obtain⟨F,J,B⟩:=PyProof.Rows.lo_facts (fun c=>c == 32) (S p)
 obtain⟨b1,b2,b3,b4⟩:=PyProof.Rows.hi_facts (fun c=>c == 32) (S p) _ F
 have elo:stripLo (fun c=>c == 32) true (S p)=(p.takeWhile (· == 32)).length:=by
  simp [stripLo]
 rw [aY] at F B b2 b3
 generalize V:stripLo (fun c=>c == 32) true (S p)=lo at F J B b1 b2 b3 b4 elo
 generalize O:stripHi (fun c=>c == 32) true (S p) lo=hi at b1 b2 b3 b4
 refine⟨(p.drop lo).take (hi - lo),?_,?_,?_⟩
 ·rw [<- KA (Builtin.Str.strSub (S p) lo hi),StrLaws.strSub_toList,cz]
 ·rw [aat,abO]
  omega
 ·rw [<- Jr,<- elo]
  by_cases G:lo=p.length
  ·rw [G,List.drop_length,List.take_nil]
  ·have hl:lo<p.length:=by omega
   have mi:lo<hi:=by
    refine Nat.lt_of_not_le fun z=>?_
    have Y:=b3 lo z hl
    rcases B with B|B
    ·exact G B
    ·rw [Y] at B;cases B
   rw [List.head?_take]
   rw [if_neg (by omega)]
def Nt:Sp:=fun vs H Q _=>∃p:Cs,vs=[tx p]/\p.length<=20000/\Q (.bl (told p)) H
def Js:Sp:=fun vs H Q _=>∃ls:List Cs,vs=[tx (dh ls)]/\ls≠[]/\(∀l∈ls,10∉l)/\(dh ls).length<=20000/\∀v H',ah H H'->ue H H' v (ls.filter told)->Q v H'
theorem AY:∀(ls:List Cs),ls.length<=(dh ls).length+1
 | []=>by simp [dh]
 | [a]=>by simp [dh]
 | a::b::r=>by
  have ih:=AY (b::r)
  show(a::b::r).length<=(a++10::dh (b::r)).length+1
  rw [aab,aal,aal (a:=10)]
  omega
theorem sj:∀(ls:List Cs) (l:Cs),l∈ls->l.length<=(dh ls).length
 | [a],l,h=>by rw [aap.mp h];exact aar _
 | a::b::r,l,h=>by
  have ih:=sj (b::r)
  show l.length<=(a++10::dh (b::r)).length
  rw [aab,aal]
  rcases aaK.mp h with e|h
  ·rw [e];omega
  ·have:=ih l h;omega
noncomputable abbrev gf:Str:="(),:;="
def Nu:Sp:=fun vs H Q _=>∃p:Cs,vs=[tx p]/\p.length<=20000/\p.all (yY gf)=true/\∀v H',ah H H'->ue H H' v (toks p)->Q v H'
noncomputable abbrev bF:Cs:=[112,97,115,115,105,110,103]
noncomputable abbrev bG:Cs:=[108,97,115,116,105,110,103]
noncomputable abbrev fN:Cs:=[114,117,108,101]
noncomputable abbrev iE:Cs:=[116,97,107,101]
noncomputable abbrev iF:Cs:=[107,101,101,112]
noncomputable abbrev gm:Cs:=[108,111,111,107]
noncomputable abbrev mF:Cs:=[112,117,116]
noncomputable abbrev gn:Cs:=[116,101,108,108]
noncomputable def wm (k:Kd):List Cs:=[if k.l=true then bG else bF,k.n,[48+k.c]]
def Nv (K:aaa):Sp:=fun vs H Q _=>∃(l:aay) (k:Kd),vs=[.ref l]/\H l=some (.lst ((wm k).map tx))/\br k.n=true/\k.c<=4/\∀v H',ah H H'->Kind K H' k v->Q v H'
theorem cq {tt:TE} {bo:List Nat} {σ:St} {H1:Hp} {Q:VK} {K:aaa} {a:aay} {xs:List V} {D:aay} {β:Type} (bs:List β) (Out:Hp->Hp->β->V->Prop)
  (keep:∀H0 H H' b y,Kp H0 H H'->Out H0 H b y->Out H0 H' b y) (cM:∀H0 U H b y,(∀c,U c=none->H0 c=none)->Out U H b y->Out H0 H b y)
  (hn:xs.length<aaj) (AR:H1 D=none) (hl:aC K H1 a xs) (J:bs.length=xs.length)
  (B:∀(i:Nat) x b H' R,xs[i]?=some x->bs[i]?=some b->ah H1 H'->(∀y jc,ah H' jc->Out H' jc b y->R y jc)->tt (cQ σ (some x) bo) H' R)
  (hd:∀H' ys,ah H1 H'->H' D=some (.lst ys)->Paired (Out H1 H') bs ys->Q (.ref D) H'):lY GX tt bo σ Q (Mj K a) H1 D:=by
 have q:ah H1 (upd H1 D (.lst [])):=ai AR _
 have TZ:∀c,upd H1 D (.lst []) c=none->H1 c=none:=fun c h=>q.free h
 refine og (K:=K) (a:=a) (xs:=xs) hn (fun i ys H'=>ah H1 H'/\H' D=some (.lst ys)/\(∀c,H' c=none->upd H1 D (.lst []) c=none)/\Paired (Out (upd H1 D (.lst [])) H') (bs.take i) ys) ⟨q,aj,fun _ h=>h,.nil⟩
  (fun i ys H' p=>p.1.seq hl) (fun i ys H' p=>⟨p.2.1,?_⟩) (fun i ys H' hi p=>?_) (fun ys H' p=>?_)
 ·have z:=aai p.2.2.2
  rw [aat] at z
  omega
 ·have G:xs.getD i .cg=xs[i]:=by rw [Gd9,Ge9 hi];rfl
  rw [G]
  have cH:i<bs.length:=by omega
  refine B i xs[i] bs[i] H' _ (Ge9 hi) (Ge9 cH) p.1 fun y U s2 F=>?_
  have ud:=s2 _ _ p.2.1
  have kp:Kp (upd H1 D (.lst [])) U (upd U D (.lst (ys++[y]))):=Kp.upd aj ud (by intro xs z;cases z) (by intro o u z;cases z)
  refine⟨ud,ah.ba (ah.trans p.1 s2) AR _,aj,fun c h=>?_,?_⟩
  ·have h2:=kp.yK c h
   exact p.2.2.1 c (s2.free h2)
  ·rw [aao cH]
   refine(L2.Paired.bA p.2.2.2 fun b v z=>keep _ _ _ _ _ kp (keep _ _ _ _ _ (Kp.same s2) z)).snoc ?_
   exact keep _ _ _ _ _ kp (cM _ _ _ _ _ p.2.2.1 F)
 ·have z:=p.2.2.2
  rw [ada (by omega)] at z
  exact hd H' ys p.1 p.2.1 (L2.Paired.bA z fun b v h=>cM _ _ _ _ _ (fun c h=>by
   by_cases e:c=D
   ·rw [e];exact AR
   ·exact TZ c h) h)
noncomputable def jO (m p:Cs) (rows:List (List Cs)):List (List Cs):=if p=m then rows++[[]] else rows.dropLast++[rows.getLastD []++[p]]
theorem qE (m p:Cs):∀(ps:List Cs) (rows:List (List Cs)),cG m (ps++[p]) rows=jO m p (cG m ps rows)
 | [],rows=>rfl
 | q::r,rows=>qE m p r _
theorem Nx {m p:Cs} {rows:List (List Cs)}:jO m p rows≠[]:=by
 unfold jO
 split <;> simp
theorem wo (m:Cs):∀(ps:List Cs) (rows:List (List Cs)),rows≠[]->cG m ps rows≠[]
 | [],rows,h=>h
 | q::r,rows,h=>wo m r _ (show jO m q rows≠[] from Nx)
theorem uf {α β:Type} {R:α->β->Prop}:∀{l1:List α} {l2:List β},Paired R l1 l2->l1≠[]->∃q x b1 y,l1=q++[x]/\l2=b1++[y]/\Paired R q b1/\R x y
 | _,_,.nil,h=>absurd rfl h
 | _,_,.cons (a:=a) (b:=b) (l₁:=l1) (l₂:=l2) r t,_=>by
  cases t with
  | nil=>exact⟨[],a,[],b,rfl,rfl,.nil,r⟩
  | cons r2 F =>
   obtain⟨q,x,b1,y,z,B,h1,h2⟩:=uf (.cons r2 F) (by simp)
   exact⟨a::q,x,b::b1,y,by rw [z];rfl,by rw [B];rfl,.cons r h1,h2⟩
theorem pG {α β:Type} {R:α->β->Prop}:∀{l1:List α} {l2:List β},Paired R l1 l2->∀{y:β},y∈l2->∃x,x∈l1/\R x y
 | _,_,.nil,_,h=>nomatch h
 | _,_,.cons r t,y,h=>by
  rcases aaK.mp h with e|h
  ·subst e;exact⟨_,aas,r⟩
  ·obtain⟨x,q,hr⟩:=pG t h
   exact⟨x,aam _ q,hr⟩
theorem dU {α β:Type} {R q:α->β->Prop}:∀{l1:List α} {l2:List β},Paired R l1 l2->(∀a b,b∈l2->R a b->q a b)->Paired q l1 l2
 | _,_,.nil,_=>.nil
 | _,_,.cons r t,h=>.cons (h _ _ aas r) (dU t fun a b z=>h a b (aam _ z))
theorem uh {α β γ:Type} {g:β->γ} {R:α->γ->Prop}:∀{l1:List α} {l2:List β},Paired (fun a b=>R a (g b)) l1 l2->Paired R l1 (l2.map g)
 | _,_,.nil=>.nil
 | _,_,.cons r t=>.cons r (uh t)
def R8 (H0 H:Hp) (row:List Cs) (v:V):Prop:=∃b,v=.ref b/\H0 b=none/\H b=some (.lst (row.map tx))
def Rows (H0 H:Hp) (v:V) (rows:List (List Cs)):Prop:=∃l vs,v=.ref l/\H0 l=none/\H l=some (.lst vs)/\Paired (R8 H0 H) rows vs
def qG:Sp:=fun vs H Q _=>∃(l:aay) (ps:List Cs) (m:Cs),vs=[.ref l,tx m]/\H l=some (.lst (ps.map tx))/\ps.length<=20000/\∀v H',ah H H'->Rows H H' v (cG m ps [[]])->Q v H'
theorem ui (m:Cs):∀(ps:List Cs) (rows:List (List Cs)),(cG m ps rows).length<=rows.length+ps.length+1
 | [],rows=>by show rows.length<=_;omega
 | p::r,rows=>by
  have ih:=ui m r (jO m p rows)
  have:(jO m p rows).length<=rows.length+1:=by
   unfold jO
   split
   ·simp
   ·rw [aab,List.length_dropLast,ado];omega
  show(cG m r (jO m p rows)).length<=_
  rw [aal]
  omega
theorem wq (m:Cs):∀(ps:List Cs) (rows:List (List Cs)) (B:Nat),(∀r∈rows,r.length<=B)->∀r∈cG m ps rows,r.length<=B+ps.length
 | [],rows,B,h,r,hr=>by have:=h r hr;show r.length<=B+0;omega
 | p::q,rows,B,h,r,hr=>by
  have ih:=wq m q (jO m p rows) (B+1) (by
   intro x z
   unfold jO at z
   split at z
   ·rcases aaq.mp z with z|z
    ·have:=h x z;omega
    ·rw [aap.mp z];simp
   ·rcases aaq.mp z with z|z
    ·have:=h x ((List.dropLast_sublist rows).subset z);omega
    ·rw [aap.mp z,aab]
     have:(rows.getLastD []).length<=B:=by
      cases rows with
      | nil=>exact ab4 _
      | cons a t=>exact h _ (List.getLast_mem (by simp:a::t≠[]))
     rw [ado]
     omega) r hr
  rw [aal]
  omega
noncomputable abbrev jn:Cs:=[115,97,109,101]
noncomputable abbrev eO:Cs:=[117,110,108,105,107,101]
noncomputable def jP (k:Lk):List Cs:=[k.l,if k.same=true then jn else eO,k.r]
noncomputable def jQ (p:Cs × Cs):List Cs:=[p.1,[61],p.2]
def Ny:Sp:=fun vs H Q _=>∃(l:aay) (a m b:Cs),vs=[.ref l]/\H l=some (.lst [tx a,tx m,tx b])/\aI a=true/\aI b=true/\∀H',ah H H'->Q .cg H'
structure yZ (K:aaa) (C:aay):Prop where
 cl:Em K C
 nL:cY K C "left"
 nR:cY K C "right"
def kr (K:aaa):Sp:=fun vs H Q _=>∃(C p dx:aay) (l r:V),vs=[.ref p,l,r]/\yZ K C/\H p=some (.ins C dx [])/\∀H' fs,H' p=some (.ins C dx fs)->fs.lookup ("left":Str)=some l->fs.lookup ("right":Str)=some r->fs.lookup ("holds":Str)=none->fs.lookup ("word":Str)=none->(∀b o,H b=some o->b≠p->H' b=some o)->Q .cg H'
def Nz (c:Cl):Sp:=fun vs H Q _=>∃(l:aay) (k:Lk),vs=[.ref l]/\H l=some (.lst ((jP k).map tx))/\aI k.l=true/\aI k.r=true/\∀v H',ah H H'->qz c H H' k v->Q v H'
def NA (K:aaa):Sp:=fun vs H Q _=>∃(l:aay) (p:Cs × Cs),vs=[.ref l]/\H l=some (.lst ((jQ p).map tx))/\aI p.1=true/\aI p.2=true/\∀v H',ah H H'->Pair K H' p v->Q v H'
def Jt (c:Cl):Sp:=fun vs H Q _=>∃(l:aay) (ks:List Lk),vs=[.ref l]/\H l=some (.lst ((glue [44] (ks.map jP)).map tx))/\ks≠[]/\ks.length<=1000/\(∀k∈ks,aI k.l=true/\aI k.r=true)/\∀v H',ah H H'->Looks c H H' v ks->Q v H'
def Ju (K:aaa):Sp:=fun vs H Q _=>∃(l:aay) (ps:List (Cs × Cs)),vs=[.ref l]/\H l=some (.lst ((glue [44] (ps.map jQ)).map tx))/\ps≠[]/\ps.length<=1000/\(∀k∈ps,aI k.1=true/\aI k.2=true)/\∀v H',ah H H'->Pairs K H H' v ps->Q v H'
theorem oi {p:Cs} (h:aI p=true):p≠[44]:=by
 intro e
 rw [e] at h
 exact absurd h (by decide +kernel)
theorem wt {m:Cs}:∀(qs:List (List Cs)) (B:Nat),(∀q∈qs,q.length<=B)->(glue m qs).length<=qs.length * (B+1)
 | [],_,_=>by simp [glue]
 | [q],B,h=>by
  show q.length<=_
  have:=h q (by simp)
  simp
  omega
 | q::q2::r,B,h=>by
  have ih:=wt (m:=m) (q2::r) B fun x z=>h x (aam _ z)
  have F:=h q (by simp)
  show(q++m::glue m (q2::r)).length<=_
  rw [aab,aal,aal,ah0]
  omega
inductive Pt where
 | fs (l:List Fc)
 | lk (l:List Lk)
 | pr (l:List (Cs × Cs))
def dA (K:aaa) (c:Cl) (H0 H:Hp) (v:V):Pt->Prop
 | .fs l=>Facts K H0 H v l
 | .lk l=>Looks c H0 H v l
 | .pr l=>Pairs K H0 H v l
theorem dA.keep {K:aaa} {c:Cl} {H0 H H':Hp} {v:V} (k:Kp H0 H H'):∀{p:Pt},dA K c H0 H v p->dA K c H0 H' v p
 | .fs _,h=>Facts.keep k h
 | .lk _,h=>Looks.keep k h
 | .pr _,h=>Pairs.keep k h
theorem qz.cM {c:Cl} {H0 H1 H:Hp} {x:Lk} {v:V} (d:∀b,H1 b=none->H0 b=none) (h:qz c H1 H x v):qz c H0 H x v:=by
 obtain⟨a,dx,fs,e,n,r⟩:=h
 exact⟨a,dx,fs,e,d a n,r⟩
theorem Looks.cM {c:Cl} {H0 H1 H:Hp} {xs:List Lk} {v:V} (d:∀b,H1 b=none->H0 b=none) (h:Looks c H1 H v xs):Looks c H0 H v xs:=by
 obtain⟨l,vs,e,n,h1,h2⟩:=h
 exact⟨l,vs,e,d l n,h1,L2.Paired.bA h2 fun _ _ z=>z.cM d⟩
theorem dA.cM {K:aaa} {c:Cl} {H0 H1 H:Hp} {v:V} (d:∀b,H1 b=none->H0 b=none):∀{p:Pt},dA K c H1 H v p->dA K c H0 H v p
 | .fs _,h=>yL.cM d h
 | .lk _,h=>Looks.cM d h
 | .pr _,h=>yL.cM d h
noncomputable def wordAt:Nat->Cs
 | 0=>iE
 | 1=>iF
 | 2=>gm
 | 3=>mF
 | _=>gn
theorem wu {i j:Nat} (hi:i<5) (q:j<5) (h:wordAt i=wordAt j):i=j:=by
 rcases(by omega:i=0\/i=1\/i=2\/i=3\/i=4) with e|e|e|e|e <;> subst e <;>
 rcases(by omega:j=0\/j=1\/j=2\/j=3\/j=4) with e|e|e|e|e <;> subst e <;> first|rfl|exact absurd h (by decide)
inductive mG:Nat->List Cs->Pt->Prop
 | fs {n:Nat} {ps:List Cs} {l:List Fc} (hn:n=0\/n=1\/n=3) (h:qB ps l):mG n ps (.fs l)
 | lk {l:List Lk} (h0:l≠[]) (hl:l.length<=1000) (h:∀k∈l,aI k.l=true/\aI k.r=true):mG 2 (glue [44] (l.map jP)) (.lk l)
 | pr {l:List (Cs × Cs)} (h0:l≠[]) (hl:l.length<=1000) (h:∀k∈l,aI k.1=true/\aI k.2=true):mG 4 (glue [44] (l.map jQ)) (.pr l)
def NB (K:aaa) (c:Cl):Sp:=fun vs H Q _=>∃(l:aay) (n:Nat) (ps:List Cs) (p:Pt),vs=[tx (wordAt n),.ref l]/\H l=some (.lst (ps.map tx))/\ps.length<=20000/\mG n ps p/\∀v H',ah H H'->dA K c H H' v p->Q v H'
structure Pr where
 n:Nat
 ps:List Cs
 p:Pt
def R9:Nat->List Pr->Prop
 | _,[]=>True
 | m,x::r=>m<=x.n/\x.n<5/\R9 (x.n+1) r
structure Jv (title:Cs) (L:List Pr):Prop where
 tt:br title=true
 ne:L≠[]
 inc:R9 0 L
 ok:∀x∈L,mG x.n x.ps x.p
 hd:∃x∈L,x.n=0\/x.n=1
 no:∀x∈L,[59]∉x.ps
noncomputable def iG (title:Cs) (L:List Pr):List Cs:=fN::title::[58]::glue [59] (L.map fun x=>wordAt x.n::x.ps)
def dB (K:aaa) (c:Cl) (H0 H:Hp) (L:List Pr) (kvs:List (Key × V)):Prop:=Paired (fun(x:Pr) (kv:Key × V)=>kv.1=abx (S (wordAt x.n))/\dA K c H0 H kv.2 x.p) L kvs
theorem dB.keep {K:aaa} {c:Cl} {H0 H H':Hp} {L:List Pr} {kvs:List (Key × V)} (k:Kp H0 H H') (h:dB K c H0 H L kvs):dB K c H0 H' L kvs:=L2.Paired.bA h fun _ _ z=>⟨z.1,z.2.keep k⟩
def NC (K:aaa) (c:Cl):Sp:=fun vs H Q _=>∃(l:aay) (title:Cs) (L:List Pr),vs=[.ref l]/\H l=some (.lst ((iG title L).map tx))/\(iG title L).length<=20000/\Jv title L /\
 ∀(t d:aay) (kvs:List (Key × V)) (H':Hp),ah H H'->H' t=some (.tup [tx title,.ref d])->H d=none->H' d=some (.dK kvs)->dB K c H H' L kvs->Q (.ref t) H'
theorem AZ {kvs:List (Key × V)} {k:Key} (h:∀p∈kvs,p.1≠k):bM kvs k=none:=by
 cases e:bM kvs k with
 | none=>rfl
 | some v =>
  obtain⟨p,q,hk⟩:=aaw.mp (Qh e)
  exact absurd hk (h p q)
theorem sk:∀{L:List Pr} {m:Nat},R9 m L->∀x∈L,m<=x.n/\x.n<5
 | [],_,_,_,h=>nomatch h
 | y::r,m,hi,x,h=>by
  rcases aaK.mp h with e|h
  ·subst e;exact⟨hi.1,hi.2.1⟩
  ·have z:=sk hi.2.2 x h
   have:=hi.1
   exact⟨by omega,z.2⟩
theorem ND:∀{L:List Pr} {m:Nat},R9 m L->∀i (h:i<L.length),(∀x∈L.take i,x.n<L[i].n)/\L[i].n<5
 | y::r,m,hi,0,_=>⟨(fun _ z=>by cases z),hi.2.1⟩
 | y::r,m,hi,i+1,h=>by
  have ih:=ND hi.2.2 i (by simpa using h)
  refine⟨fun x q=>?_,ih.2⟩
  rw [List.take_succ_cons] at q
  rcases aaK.mp q with e|q
  ·subst e
   have:=sk hi.2.2 (r[i]'(by simpa using h)) (aan _)
   show x.n<(r[i]'(by simpa using h)).n
   omega
  ·exact ih.1 x q
theorem A1:∀{L:List Pr} {m:Nat},R9 m L->∀i (h:i<L.length),∀x∈L.drop (i+1),L[i].n+1<=x.n
 | y::r,m,hi,0,_,x,q=>(sk hi.2.2 x q).1
 | y::r,m,hi,i+1,h,x,q=>A1 hi.2.2 i (by simpa using h) x q
theorem Jw:∀{L:List Pr} {m:Nat},R9 m L->m<=5->L.length<=5 - m
 | [],_,_,_=>ab4 _
 | y::r,m,hi,hm=>by
  have ih:=Jw hi.2.2 (by have:=hi.2.1;omega)
  have:=hi.1
  have:=hi.2.1
  rw [aal]
  omega
theorem ER {m:Cs}:∀(qs:List (List Cs)) (q:List Cs),q∈qs->q.length<=(glue m qs).length
 | [a],q,h=>by rw [aap.mp h];exact aar _
 | a::b::r,q,h=>by
  have ih:=ER (m:=m) (b::r)
  show q.length<=(a++m::glue m (b::r)).length
  rw [aab,aal]
  rcases aaK.mp h with e|h
  ·rw [e];omega
  ·have:=ih q h;omega
theorem A2 {K:aaa} {c:Cl} {H0 H:Hp}:∀{L:List Pr} {kvs:List (Key × V)},dB K c H0 H L kvs->∀{x:Pr},x∈L->(bM kvs (abx (S (wordAt x.n)):Key)).isSome=true
 | _,_,.nil,_,h=>nomatch h
 | _,_,.cons (a:=a) (b:=b) (l₁:=l1) (l₂:=l2) r t,x,h=>by
  rw [<- jN,aeu]
  rcases aaK.mp h with e|h
  ·subst e
   rw [decide_eq_true r.1]
   rfl
  ·have ih:=A2 t h
   rw [<- jN] at ih
   rw [ih,Bool.or_true]
def NF (f:Fc):Prop:=br f.k=true/\f.as.length<=20000/\∀a∈f.as,aI a=true
noncomputable def jh (x:Cs) (acc:List Cs):List Cs:=if great x=true then (if x∈acc then acc else acc++[x]) else acc
noncomputable def eQ (l:List Cs) (acc:List Cs):List Cs:=l.foldl (fun acc x=>jh x acc) acc
theorem gK:∀(l acc:List Cs),once (l.filter great) acc=eQ l acc
 | [],acc=>rfl
 | x::r,acc=>by
  rw [List.filter_cons]
  by_cases h:great x=true
  ·rw [if_pos h]
   show once (r.filter great) (if x∈acc then acc else acc++[x])=eQ r (jh x acc)
   rw [gK r]
   unfold jh
   rw [if_pos h]
  ·rw [if_neg h,gK r]
   show _=eQ r (jh x acc)
   unfold jh
   rw [if_neg h]
theorem NH (fs:List Fc):opens fs=eQ (fs.flatMap (·.as)) []:=gK _ _
theorem so (a b acc:List Cs):eQ (a++b) acc=eQ b (eQ a acc):=aez ..
noncomputable def zc (a:Cs):Key × V:=(abx (S a),.bl true)
theorem NI (x:Cs) (acc:List Cs):putK (acc.map zc) (abx (S x):Key) (.bl true)=(if x∈acc then acc else acc++[x]).map zc:=by
 unfold putK
 have e:((acc.map zc).any fun kv=>decide (kv.1=(abx (S x):Key)))=decide (x∈acc):=by
  rw [ac3,adv,decide_eq_true_eq]
  constructor
  ·rintro⟨kv,hm,hk⟩
   obtain⟨a,ha,rfl⟩:=aaw.mp hm
   have:=of_decide_eq_true hk
   rw [oK (agh this)] at ha
   exact ha
  ·intro h
   exact⟨zc x,aaw.mpr ⟨x,h,rfl⟩,decide_eq_true rfl⟩
 rw [e]
 by_cases h:x∈acc
 ·rw [decide_eq_true h,if_pos rfl,if_pos h]
  rw [abY]
  refine aeX fun a _=>?_
  show(if (zc a).1=_ then ((zc a).1,V.bl true) else zc a)=zc a
  split <;> rfl
 ·rw [decide_eq_false h,if_neg (by decide),if_neg h,aau]
  rfl
theorem KD (x:Cs) (acc:List Cs):(jh x acc).length<=acc.length+1:=by
 unfold jh
 split
 ·split <;> simp
 ·omega
def Jy (K:aaa):Sp:=fun vs H Q _=>∃(l:aay) (us:List V) (fs:List Fc),vs=[.ref l]/\H l=some (.lst us)/\Paired (Fact K H) fs us/\fs.length<=20000/\(∀f∈fs,NF f)/\(fs.flatMap (·.as)).length<=20000/\∀v H',ah H H'->ue H H' v (opens fs)->Q v H'
noncomputable def qH (n:Nat) (L:List Pr):Option Pr:=L.find? fun x=>x.n == n
noncomputable def zi (n:Nat) (L:List Pr):List Fc:=match qH n L with
 | some ⟨_,_,.fs l⟩=>l
 | _=>[]
noncomputable def Ql (L:List Pr):List Lk:=match qH 2 L with
 | some ⟨_,_,.lk l⟩=>l
 | _=>[]
noncomputable def Qm (L:List Pr):List (Cs × Cs):=match qH 4 L with
 | some ⟨_,_,.pr l⟩=>l
 | _=>[]
noncomputable def uW (title:Cs) (L:List Pr):Rl:=⟨title,zi 0 L,zi 1 L,Ql L,zi 3 L,Qm L⟩
theorem oj {K:aaa} {c:Cl} {H0 H:Hp}:∀{L:List Pr} {kvs:List (Key × V)} {n:Nat},dB K c H0 H L kvs->(∀x∈L,x.n<5)->n<5 ->
  (qH n L=none/\bM kvs (abx (S (wordAt n)):Key)=none)\/∃x v,qH n L=some x/\x∈L/\x.n=n/\bM kvs (abx (S (wordAt n)):Key)=some v/\dA K c H0 H v x.p
 | _,_,n,.nil,_,_=>.inl ⟨rfl,rfl⟩
 | _,_,n,.cons (a:=a) (b:=b) (l₁:=l1) (l₂:=l2) r t,q,hn=>by
  by_cases e:a.n=n
  ·refine .inr ⟨a,b.2,?_,aas,e,?_,r.2⟩
   ·unfold qH
    rw [acn,show(a.n == n)=true by simpa using e]
   ·exact mx (by rw [r.1,e])
  ·have B:qH n (a::l1)=qH n l1:=by
    unfold qH
    rw [acn,show(a.n == n)=false by simpa using e]
   have F:bM (b::l2) (abx (S (wordAt n)):Key)=bM l2 (abx (S (wordAt n)):Key):=my (by
    rw [r.1]
    intro z
    exact e (wu (q a aas) hn (oK (agh z))))
   rw [B,F]
   rcases oj (n:=n) t (fun x G=>q x (aam _ G)) hn with z|⟨x,v,J,O,Y⟩
   ·exact .inl z
   ·exact .inr ⟨x,v,J,aam _ O,Y⟩
theorem ES {K:aaa} {H0 H:Hp} {l:aay} (h0:H0 l=none) (h:H l=some (.lst [])):Facts K H0 H (.ref l) []:=⟨l,[],rfl,h0,h,.nil⟩
theorem ET {c:Cl} {H0 H:Hp} {l:aay} (h0:H0 l=none) (h:H l=some (.lst [])):Looks c H0 H (.ref l) []:=⟨l,[],rfl,h0,h,.nil⟩
theorem EU {K:aaa} {H0 H:Hp} {l:aay} (h0:H0 l=none) (h:H l=some (.lst [])):Pairs K H0 H (.ref l) []:=⟨l,[],rfl,h0,h,.nil⟩
theorem G7 {K:aaa} {c:Cl} {H0 H:Hp} {L:List Pr} {kvs:List (Key × V)} {n:Nat} {l:aay} (G:dB K c H0 H L kvs) (F:∀x∈L,x.n<5) (hok:∀x∈L,mG x.n x.ps x.p) (hn:n=0\/n=1\/n=3) (h0:H0 l=none) (h:H l=some (.lst [])) :
  Facts K H0 H ((bM kvs (abx (S (wordAt n)):Key)).getD (.ref l)) (zi n L):=by
 rcases oj (n:=n) G F (by omega) with⟨q,z⟩|⟨⟨xn,xps,xp⟩,v,q,z,rfl,J,O⟩
 ·rw [z]
  unfold zi
  rw [q]
  exact ES h0 h
 ·rw [J]
  unfold zi
  rw [q]
  have B:=hok _ z
  cases xp with
  | fs l=>exact O
  | lk l=>cases B;exact absurd (show 2=0\/2=1\/2=3 from hn) (by decide)
  | pr l=>cases B;exact absurd (show 4=0\/4=1\/4=3 from hn) (by decide)
theorem T2 {K:aaa} {c:Cl} {H0 H:Hp} {L:List Pr} {kvs:List (Key × V)} {l:aay} (J:dB K c H0 H L kvs) (G:∀x∈L,x.n<5) (hok:∀x∈L,mG x.n x.ps x.p) (h0:H0 l=none) (h:H l=some (.lst [])) :
  Looks c H0 H ((bM kvs (abx (S (wordAt 2)):Key)).getD (.ref l)) (Ql L):=by
 rcases oj (n:=2) J G (by omega) with⟨q,z⟩|⟨⟨xn,xps,xp⟩,v,q,z,B,O,Y⟩
 ·rw [z]
  unfold Ql
  rw [q]
  exact ET h0 h
 ·rw [O]
  unfold Ql
  rw [q]
  have B:xn=2:=B
  subst B
  have F:=hok _ z
  cases xp with
  | fs l=>cases F with|fs hn _=>exact absurd (show 2=0\/2=1\/2=3 from hn) (by decide)
  | lk l=>exact Y
  | pr l=>cases F
theorem T3 {K:aaa} {c:Cl} {H0 H:Hp} {L:List Pr} {kvs:List (Key × V)} {l:aay} (J:dB K c H0 H L kvs) (G:∀x∈L,x.n<5) (hok:∀x∈L,mG x.n x.ps x.p) (h0:H0 l=none) (h:H l=some (.lst [])) :
  Pairs K H0 H ((bM kvs (abx (S (wordAt 4)):Key)).getD (.ref l)) (Qm L):=by
 rcases oj (n:=4) J G (by omega) with⟨q,z⟩|⟨⟨xn,xps,xp⟩,v,q,z,B,O,Y⟩
 ·rw [z]
  unfold Qm
  rw [q]
  exact EU h0 h
 ·rw [O]
  unfold Qm
  rw [q]
  have B:xn=4:=B
  subst B
  have F:=hok _ z
  cases xp with
  | fs l=>cases F with|fs hn _=>exact absurd (show 4=0\/4=1\/4=3 from hn) (by decide)
  | lk l=>cases F
  | pr l=>exact Y
structure sr (K:aaa) (C:aay):Prop where
 cl:Em K C
 n1:cY K C "title"
 n2:cY K C "taken"
 n3:cY K C "kept"
 n4:cY K C "looks"
 n5:cY K C "given"
 n6:cY K C "told"
 n7:cY K C "names"
structure Qn (K:aaa) (C:aay):Prop where
 cl:Em K C
 n1:cY K C "kinds"
 n2:cY K C "rules"
structure Qo (r:Rl):Prop where
 heads:∀f∈r.take++r.keep,NF f
 few:(r.take++r.keep).length<=20000
 abC:((r.take++r.keep).flatMap (·.as)).length<=20000
def vB (K:aaa) (c:Cl):Sp:=fun vs H Q _=>∃(H0:Hp) (p dx d:aay) (title:Cs) (L:List Pr) (kvs:List (Key × V)) (q:HO),vs=[.ref p,tx title,.ref d]/\H p=some (.ins c.rule dx [])/\H0 p=some q/\(∀b,H b=none->H0 b=none)/\H d=some (.dK kvs) /\
 dB K c H0 H L kvs/\(∀x∈L,x.n<5)/\(∀x∈L,mG x.n x.ps x.p)/\Qo (uW title L) /\
 ∀H' fs,H' p=some (.ins c.rule dx fs)->qA K c H0 H' (uW title L) fs->(∀b o,H b=some o->b≠p->H' b=some o)->Q .cg H'
def vC (K:aaa) (c:Cl):Sp:=fun vs H Q _=>∃(p dx:aay) (k r:V),vs=[.ref p,k,r]/\H p=some (.ins c.book dx [])/\∀H' fs,H' p=some (.ins c.book dx fs)->fs.lookup ("kinds":Str)=some k->fs.lookup ("rules":Str)=some r->(∀b o,H b=some o->b≠p->H' b=some o)->Q .cg H'
def vD (K:aaa) (c:Cl):Sp:=fun vs H Q _=>∃(H0:Hp) (v:V) (r:Rl),vs=[v]/\hV K c H0 H r v/\Q (.bl (decide (r.take=[]))) H
theorem bx {α β:Type} {R:α->β->Prop}:∀{q z:List α} {b1 b2:List β},Paired R q b1->Paired R z b2->Paired R (q++z) (b1++b2)
 | _,_,_,_,.nil,h=>h
 | _,_,_,_,.cons r t,h=>.cons r (bx t h)
theorem d9 (a:Cs) (l:List Cs):Pl (tx a) (l.map tx)=decide (a∈l):=by
 unfold Pl
 rw [agQ,ac3,adv,decide_eq_true_eq]
 constructor
 ·rintro⟨x,q,h⟩
  have e:(S x == S a)=true:=h
  rw [oK (eq_of_beq e)] at q
  exact q
 ·intro h
  exact⟨a,h,(show(S a == S a)=true from beq_self_eq_true _)⟩
theorem dj (l:List Cs):(l.map tx).all jK=true:=by
 rw [ahw,ab3]
 intro x _
 rfl
theorem ef {tt:TT} {te:TE} {bo:List Nat} {σ:St} {H1:Hp} {Q:VK} {K:aaa} {a:aay} {xs:List V} {D:aay} {β γ:Type} (bs:List β) (kp:β->Bool) (g:β->γ) (Out:Hp->Hp->γ->V->Prop)
  (keep:∀H0 H H' b y,Kp H0 H H'->Out H0 H b y->Out H0 H' b y) (cM:∀H0 U H b y,(∀c,U c=none->H0 c=none)->Out U H b y->Out H0 H b y)
  (hn:xs.length<aaj) (AR:H1 D=none) (hl:aC K H1 a xs) (O:bs.length=xs.length)
  (G:∀(i:Nat) x b H' R,xs[i]?=some x->bs[i]?=some b->ah H1 H'->(∀jc,ah H' jc->R (kp b) jc)->tt (cQ σ (some x) bo) H' R)
  (B:∀(i:Nat) x b H' R,xs[i]?=some x->bs[i]?=some b->kp b=true->ah H1 H'->(∀y jc,ah H' jc->Out H' jc (g b) y->R y jc)->te (cQ σ (some x) bo) H' R)
  (hd:∀H' ys,ah H1 H'->H' D=some (.lst ys)->Paired (Out H1 H') ((bs.filter kp).map g) ys->Q (.ref D) H'):lY tt te bo σ Q (Mj K a) H1 D:=by
 have q:ah H1 (upd H1 D (.lst [])):=ai AR _
 have TZ:∀c,upd H1 D (.lst []) c=none->H1 c=none:=fun c h=>q.free h
 refine og (K:=K) (a:=a) (xs:=xs) hn (fun i ys H'=>ah H1 H'/\H' D=some (.lst ys)/\(∀c,H' c=none->upd H1 D (.lst []) c=none)/\Paired (Out (upd H1 D (.lst [])) H') (((bs.take i).filter kp).map g) ys) ⟨q,aj,fun _ h=>h,.nil⟩
  (fun i ys H' p=>p.1.seq hl) (fun i ys H' p=>⟨p.2.1,?_⟩) (fun i ys H' hi p=>?_) (fun ys H' p=>?_)
 ·have z:=aai p.2.2.2
  rw [Lm9] at z
  have L:=acw kp (bs.take i)
  rw [aat] at L
  omega
 ·have J:xs.getD i .cg=xs[i]:=by rw [Gd9,Ge9 hi];rfl
  rw [J]
  have cH:i<bs.length:=by omega
  refine G i xs[i] bs[i] H' _ (Ge9 hi) (Ge9 cH) p.1 fun H1' T4=>?_
  have R4:=T4 _ _ p.2.1
  have T5:∀c,H1' c=none->upd H1 D (.lst []) c=none:=fun c h=>p.2.2.1 c (T4.free h)
  cases hk:kp bs[i] with
  | false =>
   refine bw ⟨ah.trans p.1 T4,R4,T5,?_⟩
   rw [aao cH,agP]
   have e:[bs[i]].filter kp=[]:=by simp [hk]
   rw [e,abI]
   exact L2.Paired.bA p.2.2.2 fun b v z=>keep _ _ _ _ _ (Kp.same T4) z
  | true =>
   refine dP ?_
   refine B i xs[i] bs[i] H1' _ (Ge9 hi) (Ge9 cH) hk (ah.trans p.1 T4) fun y U s2 F=>?_
   have ud:=s2 _ _ R4
   have Kz:Kp (upd H1 D (.lst [])) U (upd U D (.lst (ys++[y]))):=Kp.upd aj ud (by intro xs z;cases z) (by intro o u z;cases z)
   refine⟨ud,ah.ba (ah.trans (ah.trans p.1 T4) s2) AR _,aj,fun c h=>?_,?_⟩
   ·exact T5 c (s2.free (Kz.yK c h))
   ·rw [aao cH,agP]
    have e:[bs[i]].filter kp=[bs[i]]:=by simp [hk]
    rw [e,aau]
    refine(L2.Paired.bA p.2.2.2 fun b v z=>keep _ _ _ _ _ Kz (keep _ _ _ _ _ (Kp.same (ah.trans T4 s2)) z)).snoc ?_
    exact keep _ _ _ _ _ Kz (cM _ _ _ _ _ T5 F)
 ·have z:=p.2.2.2
  rw [ada (by omega)] at z
  exact hd H' ys p.1 p.2.1 (L2.Paired.bA z fun b v h=>cM _ _ _ _ _ (fun c h=>by
   by_cases e:c=D
   ·rw [e];exact AR
   ·exact TZ c h) h)
theorem dJ:∀{l:List Cs} {ys:List V},Paired (fun b y=>y=tx b) l ys->ys=l.map tx
 | _,_,.nil=>rfl
 | _,_,.cons r t=>by rw [r,dJ t];rfl
def WK (k:Kd):Prop:=br k.n=true/\k.c<=4
structure pI (K:aaa) (c:Cl) (H0 H:Hp) (lk lr:aay) (ks:List Kd) (rs:List Rl) (kvs oB:List V):Prop where
 hk:H lk=some (.lst kvs)
 pk:Paired (Kind K H) ks kvs
 hr:H lr=some (.lst oB)
 pr:Paired (hV K c H0 H) rs oB
 ne:lk≠lr
 ok:∃u,H0 lk=some u
 or:∃u,H0 lr=some u
 yK:∀b,H b=none->H0 b=none
 fk:ks.length<=10000
 fr:rs.length<=10000
def NJ (K:aaa) (c:Cl):Sp:=fun vs H Q _=>∃(H0:Hp) (lk lr:aay) (ks:List Kd) (rs:List Rl) (kvs oB:List V) (p:Cs),vs=[.ref lk,.ref lr,tx p]/\pI K c H0 H lk lr ks rs kvs oB/\ks.length<10000/\rs.length<10000/\p.length<=20000/\p.all (yY gf)=true /\
  ((∃k:Kd,toks p=wm k/\WK k/\k.n∉ks.map (·.n)/\∀v H',(∀b o,b≠lk->H b=some o->H' b=some o)->pI K c H0 H' lk lr (ks++[k]) rs (kvs++[v]) oB->Q .cg H') \/
   (∃(title:Cs) (L:List Pr),toks p=iG title L/\Jv title L/\Qo (uW title L)/\title∉rs.map (·.title)/\∀v H',(∀b o,b≠lr->H b=some o->H' b=some o)->pI K c H0 H' lk lr ks (rs++[uW title L]) kvs (oB++[v])->Q .cg H'))
theorem hV.cM {K:aaa} {c:Cl} {H0 H1 H:Hp} {r:Rl} {v:V} (d:∀b,H1 b=none->H0 b=none) (h:hV K c H1 H r v):hV K c H0 H r v:=by
 obtain⟨a,dx,fs,e,n,h1,⟨t1,⟨v2,q,h2⟩,⟨v3,z,O⟩,⟨v4,B,Y⟩,⟨v5,F,Z⟩,⟨v6,G,h6⟩,⟨v7,J,h7⟩,h8⟩⟩:=h
 refine⟨a,dx,fs,e,d a n,h1,⟨t1,⟨v2,q,yL.cM d h2⟩,⟨v3,z,yL.cM d O⟩,⟨v4,B,Looks.cM d Y⟩,⟨v5,F,yL.cM d Z⟩,⟨v6,G,yL.cM d h6⟩,⟨v7,J,?_⟩,h8⟩⟩
 obtain⟨l,L,nl,hl⟩:=h7
 exact⟨l,L,d l nl,hl⟩
theorem dA.apart {K:aaa} {c:Cl} {H0 H:Hp} {v:V} {x:aay} {o:HO} (B:H x=none) {p:Pt} (h:dA K c H0 H v p):dA K c (upd H0 x o) H v p:=by
 have key:∀b u,H b=some u->H0 b=none->upd H0 x o b=none:=fun b u e n=>by rw [aD (aO e B)];exact n
 cases p with
 | fs l =>
  obtain⟨l,vs,e,n,h1,h2⟩:=h
  exact⟨l,vs,e,key _ _ h1 n,h1,h2⟩
 | pr l =>
  obtain⟨l,vs,e,n,h1,h2⟩:=h
  exact⟨l,vs,e,key _ _ h1 n,h1,h2⟩
 | lk l =>
  obtain⟨l,vs,e,n,h1,h2⟩:=h
  exact⟨l,vs,e,key _ _ h1 n,h1,L2.Paired.bA h2 fun k y z=>by
   obtain⟨a,dx,fs,e,n,q,F⟩:=z
   exact⟨a,dx,fs,e,key _ _ q n,q,F⟩⟩
theorem qA.cM {K:aaa} {c:Cl} {H0 H1 H:Hp} {r:Rl} {fs:List (Str × V)} (d:∀b,H1 b=none->H0 b=none) (h:qA K c H1 H r fs):qA K c H0 H r fs:=by
 obtain⟨t1,⟨v2,q,h2⟩,⟨v3,z,O⟩,⟨v4,B,Y⟩,⟨v5,F,Z⟩,⟨v6,G,h6⟩,⟨v7,J,h7⟩,h8⟩:=h
 refine⟨t1,⟨v2,q,yL.cM d h2⟩,⟨v3,z,yL.cM d O⟩,⟨v4,B,Looks.cM d Y⟩,⟨v5,F,yL.cM d Z⟩,⟨v6,G,yL.cM d h6⟩,⟨v7,J,?_⟩,h8⟩
 obtain⟨l,L,nl,hl⟩:=h7
 exact⟨l,L,d l nl,hl⟩
def wx (ks:List Kd) (f:Fc):Prop:=∃k∈ks,k.n=f.k/\f.as.length=k.c
def EV (K:aaa):Sp:=fun vs H Q _=>∃(lk lf:aay) (kvs A3:List V) (ks:List Kd) (fs:List Fc),vs=[.ref lk,.ref lf]/\H lk=some (.lst kvs)/\Paired (Kind K H) ks kvs/\(ks.map (·.n)).Nodup/\ks.length<=10000/\H lf=some (.lst A3)/\Paired (Fact K H) fs A3/\(∀f∈fs,wx ks f)/\∀H',ah H H'->Q .cg H'
def EW (K:aaa):Sp:=fun vs H Q _=>∃(ll lf:aay) (A3:List V) (ls:List Cs) (fs:List Fc),vs=[.ref ll,.ref lf]/\H ll=some (.lst (ls.map tx))/\H lf=some (.lst A3)/\Paired (Fact K H) fs A3/\(∀f∈fs,f.k∉ls)/\Q .cg H
def EX (K:aaa) (c:Cl):Sp:=fun vs H Q _=>∃(H0:Hp) (ll:aay) (v:V) (ls:List Cs) (r:Rl),vs=[.ref ll,v]/\H ll=some (.lst (ls.map tx))/\hV K c H0 H r v/\(r.take=[]->∀f∈r.put,f.k∈ls)/\Q .cg H
noncomputable def dW (r:Rl):List Cs:=(r.aT.flatMap fun k=>[k.l,k.r])++((r.put.flatMap (·.as))++(r.tell.flatMap fun p=>[p.1,p.2]))
def NK (K:aaa) (c:Cl):Sp:=fun vs H Q _=>∃(H0:Hp) (v:V) (r:Rl),vs=[v]/\hV K c H0 H r v/\(dW r).length<=20000/\∀u H',ah H H'->ue H H' u (dW r)->Q u H'
def EY (K:aaa) (c:Cl):Sp:=fun vs H Q _=>∃(H0:Hp) (v:V) (r:Rl),vs=[v]/\hV K c H0 H r v/\(dW r).length<=20000/\(∀a∈dW r,aI a=true)/\(∀a∈dW r,great a=true->a∈opens (r.take++r.keep))/\∀H',ah H H'->Q .cg H'
structure wz (ks:List Kd) (r:Rl):Prop where
 fits:∀f∈r.take++r.keep++r.put,wx ks f
 takes:∀f∈r.take,f.k∉(ks.filter (·.l)).map (·.n)
 calls:r.take=[]->∀f∈r.put,f.k∈(ks.filter (·.l)).map (·.n)
 abD:∀a∈dW r,great a=true->a∈opens (r.take++r.keep)
 names:∀a∈dW r,aI a=true
 few:(dW r).length<=20000
 abE:(r.take++r.keep++r.put).length<=20000
def Jz (K:aaa) (c:Cl):Sp:=fun vs H Q _=>∃(H0:Hp) (lk lr:aay) (ks:List Kd) (rs:List Rl) (kvs oB:List V),vs=[.ref lk,.ref lr]/\pI K c H0 H lk lr ks rs kvs oB/\(ks.map (·.n)).Nodup/\(∀r∈rs,wz ks r) /\
 ∀x dx fs H',ah H H'->H x=none->H' x=some (.ins c.book dx fs)->fs.lookup ("kinds":Str)=some (.ref lk)->fs.lookup ("rules":Str)=some (.ref lr)->Q (.ref x) H'
theorem ku:∀(ps acc:List (Key × V)),((acc++ps).map (·.1)).Nodup->cR acc ps=acc++ps
 | [],acc,_=>by show acc=acc++[];rw [abI]
 | p::r,acc,h=>by
  have hn:bM acc p.1=none:=AZ fun q z e=>by
   rw [aau,abw,adC] at h
   exact h.2.2 q.1 (aaw.mpr ⟨q,z,rfl⟩) p.1 aas e
  have ih:=ku r (acc++[p]) (by rw [abH];exact h)
  show cR (putK acc p.1 p.2) r=_
  rw [EB _ hn,ih,abH]
  rfl
theorem A4 {ps:List (Key × V)} {k:Key} {v:V} (hn:(ps.map (·.1)).Nodup) (h:(k,v)∈ps):bM ps k=some v:=by
 induction ps with
 | nil=>cases h
 | cons p r ih=>
  rw [abw,ac6] at hn
  rcases aaK.mp h with e|h
  ·subst e;exact mx rfl
  ·have:p.1≠k:=fun e=>hn.1 (aaw.mpr ⟨(k,v),h,e.symm⟩)
   rw [my this]
   exact ih hn.2 h
theorem su {α:Type} (g:α->List Cs) (l:List α) (i:Nat):((l.take i).flatMap g).length<=(l.flatMap g).length:=by
 have e:l.flatMap g=(l.take i).flatMap g++(l.drop i).flatMap g:=by rw [<- acq,aeq]
 rw [e,aab]
 omega
noncomputable def wA (k:Kd):Key × V:=(abx (S k.n),.int k.c)
theorem uj {K:aaa} {H:Hp}:∀{ks:List Kd} {ys:List V},Paired (fun(k:Kd) (y:V)=>∃t,y=.ref t/\bH K H t [tx k.n,.int k.c]) ks ys->Jm K H (ks.map wA) ys
 | _,_,.nil=>.nil
 | _,_,.cons r t=>.cons r (uj t)
theorem um {ks:List Kd} (h:(ks.map (·.n)).Nodup):((ks.map wA).map (·.1)).Nodup:=by
 rw [abY]
 have e:((fun p:Key × V=>p.1) ∘ wA)=(fun n:Cs=>(abx (S n):Key)) ∘ (fun k:Kd=>k.n):=rfl
 rw [e,<- abY]
 exact agj.mpr (List.Pairwise.imp (fun q e=>q (oK (agh e))) h)
inductive It where
 | kind (k:Kd)
 | rule (title:Cs) (L:List Pr)
noncomputable def It.ps:It->List Cs
 | .kind k=>wm k
 | .rule t L=>iG t L
noncomputable def jR:List It->List Kd
 | []=>[]
 | .kind k::r=>k::jR r
 | .rule _ _::r=>jR r
noncomputable def jS:List It->List Rl
 | []=>[]
 | .kind _::r=>jS r
 | .rule t L::r=>uW t L::jS r
theorem jT (a b:List It):jR (a++b)=jR a++jR b:=by
 induction a with
 | nil=>rfl
 | cons x r ih=>cases x <;> simp [jR,ih]
theorem jU (a b:List It):jS (a++b)=jS a++jS b:=by
 induction a with
 | nil=>rfl
 | cons x r ih=>cases x <;> simp [jS,ih]
def WL:It->Prop
 | .kind k=>WK k
 | .rule t L=>Jv t L/\Qo (uW t L)
structure NL (ls:List Cs) (its:List (Cs × It)):Prop where
 lines:ls.filter told=its.map (·.1)
 ok:∀x∈its,x.1.all (yY gf)=true/\toks x.1=x.2.ps/\WL x.2
 nk:((jR (its.map (·.2))).map (·.n)).Nodup
 nr:((jS (its.map (·.2))).map (·.title)).Nodup
 good:∀r∈jS (its.map (·.2)),wz (jR (its.map (·.2))) r
 few:its.length<10000
def NM (K:aaa) (c:Cl):Sp:=fun vs H Q _=>∃(ls:List Cs) (its:List (Cs × It)),vs=[tx (dh ls)]/\ls≠[]/\(∀l∈ls,10∉l)/\(dh ls).length<=20000/\NL ls its/\∀v H',ah H H'->we K c H H' (jR (its.map (·.2))) (jS (its.map (·.2))) v->Q v H'
theorem wB:∀(a:List It),(jR a).length<=a.length
 | []=>aar _
 | .kind k::r=>by show(jR r).length+1<=_;have:=wB r;rw [aal];omega
 | .rule t L::r=>by show(jR r).length<=_;have:=wB r;rw [aal];omega
theorem wC:∀(a:List It),(jS a).length<=a.length
 | []=>aar _
 | .kind k::r=>by show(jS r).length<=_;have:=wC r;rw [aal];omega
 | .rule t L::r=>by show(jS r).length+1<=_;have:=wC r;rw [aal];omega
end Bk
namespace L2
open PySem PySem.Spec PyProof.Rows
section
variable {X:Cx}
end
end L2
namespace Bk
open PySem L2 cE
theorem eS (a b:List Nat):S a++S b=S (a++b):=by
 rw [<- KA (S a++S b),adg,cz,cz]
theorem om:∀{as:List (List Nat)} {B:Nat},(∀a∈as,a.length<=B)->((as.map S).map (·.length)).sum<=as.length * B
 | [],_,_=>by simp
 | a::r,B,h=>by
  have z:=h a (by simp)
  have ih:=om (as:=r) (B:=B) fun x q=>h x (aam _ q)
  rw [abw,abw,aic,aY,aal,ah0]
  omega
def G9 (K:aaa):Sp:=fun vs H Q _=>∃(a:aay) (ns:List Int) (k:Int),vs=[.ref a,.int k]/\aC K H a (ns.map V.int)/\0<=k/\∀v:Int,Q (.int v) H
def Good (fs:List Nat) (z:List Nat):Prop:=aI z=true/\z.headD 0∈fs
def JA (K:aaa):Sp:=fun vs H Q _=>∃(a:aay) (ns:List Int),vs=[.ref a]/\aC K H a (ns.map V.int)/\ns.length<=63/\∀H',Q (.bl true) H'
theorem uX {α:Type} {n:Nat} {g:Nat->α} (h:∀i j,i<n->j<n->g i=g j->i=j):((acr n).map g).Nodup:=by
 rw [List.nodup_iff_pairwise_ne,agj]
 refine List.Pairwise.imp_of_mem ?_ (List.nodup_range (n:=n))
 intro a b ha z q e
 exact q (h a b (acy.mp ha) (acy.mp z) e)
theorem EZ {K:aaa} {t:aae}:acj K t t=some true:=by
 unfold acj
 rw [if_pos (beq_self_eq_true t)]
noncomputable def ig (c:Nat):List Cs->Cs
 | []=>[]
 | [a]=>a
 | a::r=>a++c::ig c r
theorem A5 (c:Nat):∀(ls:List Str),(ahe ⟨#[c]⟩ ls).cps.toList=ig c (ls.map fun s=>s.cps.toList)
 | []=>rfl
 | [a]=>rfl
 | a::b::r=>by
  have ih:=A5 c (b::r)
  show((a++(⟨#[c]⟩:Str))++ahe ⟨#[c]⟩ (b::r)).cps.toList=_
  rw [adg,adg,ih]
  show(a.cps.toList++[c])++_=a.cps.toList++c::_
  simp
theorem JB:∀ls,ig 10 ls=dh ls
 | []=>rfl
 | [a]=>rfl
 | a::b::r=>by
  show a++10::ig 10 (b::r)=a++10::dh (b::r)
  rw [JB (b::r)]
theorem Cc (c:Nat) (ls:List Cs):ait ⟨#[c]⟩ (ls.map S)=S (ig c ls):=by
 show ail ⟨#[c]⟩ _=_
 rw [ahz,<- KA (ahe ⟨#[c]⟩ (ls.map S)),A5,abY]
 have e:((fun s:Str=>s.cps.toList) ∘ S)=id:=by
  funext p
  exact cz p
 rw [e,aep]
noncomputable def qI (k:Kd) (a b c d:Nat):Cs:=abL a 32++((if k.l=true then bG else bF)++(abL b 32++(k.n++(abL c 32++([48+k.c]++abL d 32)))))
noncomputable def aZ (k:Kd):Cs:=(if k.l=true then bG else bF)++(32::(k.n++(32::[48+k.c])))
theorem Ha (k:Kd):aZ k=qI k 0 1 1 0:=by
 unfold aZ qI
 simp [abL]
theorem Sa (b:Bool):(if b=true then bG else bF).all bu=true/\(if b=true then bG else bF).length=7:=by cases b <;> exact⟨by decide +kernel,rfl⟩
theorem NN {c:Nat} (h:c<=4):bu (48+c)=true:=by
 rcases(by omega:c=0\/c=1\/c=2\/c=3\/c=4) with e|e|e|e|e <;> subst e <;> decide +kernel
theorem E1 {p:Cs} (h:br p=true):p.all bu=true:=by
 unfold br aI at h
 simp only [abg] at h
 exact h.1.2.2
theorem A6 {n:Nat} (h:1<=n) (r:Cs):oI (abL n 32++r):=by
 cases n with
 | zero=>omega
 | succ n=>exact qy
theorem Hb {k:Kd} {a b c d:Nat} (hn:br k.n=true) (F:k.c<=4) (B:1<=b) (q:1<=c):toks (qI k a b c d)=wm k:=by
 have h1:=Sa k.l
 have hl:=fh hn
 unfold qI wm
 rw [gJ,d8 h1.1 (fun z=>by rw [z] at h1;exact absurd h1.2 (by decide)) (A6 B _),gJ,d8 (E1 hn) (fun z=>by rw [z] at hl;simp at hl) (A6 q _),gJ,
  d8 (n:=[48+k.c]) (by simp [NN F]) (by simp) (by have z:=B7 d (r:=[]) trivial;rwa [abI] at z)]
 have z:=gJ d []
 rw [abI] at z
 rw [z]
 rfl
theorem NO {m:Str} {c:Nat} (h:bu c=true):yY m c=true:=by
 unfold yY
 rw [h]
 rfl
theorem vE {f:Nat->Bool} (h:f 32=true) (n:Nat):(abL n 32).all f=true:=by
 rw [ab3]
 intro x q
 rw [(List.mem_replicate.mp q).2]
 exact h
theorem A7 {f:Nat->Bool} (Zn:f 32=true) (Ed:∀c,bu c=true->f c=true) {k:Kd} {a b c d:Nat} (hn:br k.n=true) (q:k.c<=4):(qI k a b c d).all f=true:=by
 have up:∀p:Cs,p.all bu=true->p.all f=true:=fun p h=>by
  rw [ab3] at h ⊢
  exact fun x z=>Ed x (h x z)
 unfold qI
 rw [abJ,abJ,abJ,abJ,abJ,abJ,vE Zn,vE Zn,vE Zn,vE Zn,up _ (Sa k.l).1,up _ (E1 hn),up [48+k.c] (by simp [NN q])]
 rfl
theorem NP {k:Kd} {a b c d:Nat} (hn:br k.n=true) (q:k.c<=4):10∉qI k a b c d:=by
 have z:=A7 (f:=fun x=>!(x == 10)) rfl (fun c h=>by
  cases e:(c == 10) with
  | false=>rfl
  | true =>
   rw [beq_iff_eq.mp e] at h
   exact absurd h (by decide +kernel)) (k:=k) (a:=a) (b:=b) (c:=c) (d:=d) hn q
 rw [ab3] at z
 intro h
 exact absurd (z 10 h) (by decide)
theorem NQ {n:Nat} {r:Cs}:(abL n 32++r).dropWhile (· == 32)=r.dropWhile (· == 32):=by
 induction n with
 | zero=>rfl
 | succ n ih=>rw [aeV,aeR,aeW,if_pos (by decide)];exact ih
theorem Hc {k:Kd} {a b c d:Nat}:told (qI k a b c d)=true:=by
 unfold told qI
 rw [NQ]
 cases k.l <;> rfl
theorem JC {c:Nat} (h:c<=4):(aad (toString (c:Int)))=S [48+c]:=by
 rcases(by omega:c=0\/c=1\/c=2\/c=3\/c=4) with e|e|e|e|e <;> subst e <;> decide +kernel
theorem JD {c:Nat} (h:c<=4):(c:Int).natAbs.log2<1920:=by
 rcases(by omega:c=0\/c=1\/c=2\/c=3\/c=4) with e|e|e|e|e <;> subst e <;> decide +kernel
theorem g6 {p:Cs} {z:Str} {t:Tok} (e:z=S p):RelV (tx p) (ac1 z t):=⟨t,by rw [e]⟩
end Bk
namespace L2
open PySem PySem.Spec PyProof.Rows
section
variable {X:Cx} {pins:List (aay × Obj)} {σ:St} {H:Hp} {s:aah} {h':Heap}
theorem Inv.Qp {t':Nat} {ch:List aay} (I:Inv X pins σ H s) (k:∀b o,b∉ch->s.heap.get? b=some o->h'.get? b=some o) (F:∀it∈ch,H it=none/\it≠X.env.locals/\(it∈X.ex\/X.s₀.heap.objs.size<=it)/\(∀x c,X.env.cells.lookup x=some c->c≠it)/\∀p∈X.pn++pins,p.1≠it) :
  Inv X pins σ H { s with heap:=h',toks:=t' }:=by
 have VW:∀b u,H b=some u->b∉ch:=fun b u e z=>by rw [(F b z).1] at e;cases e
 refine I.step (g':=s.gens) (d':=s.drawn) (ch:=ch) (fun b V=>?_) (fun b o _ _ B e _=>k b o B e) (fun b o _ _ B e _=>⟨o.slots,k b o B e⟩) (fun _ _ _ _ n=>n)
  (fun b o B e=>⟨o,k b o B e⟩) (fun _ _ e=>e) (fun _ _ _ e=>e) (fun b ps e=>⟨#[],by rw [e];simp⟩) (fun m hm=>?_) (fun b u e=>?_) I.bare
 ·obtain⟨_,G,J,L,O⟩:=F b V
  exact⟨J,G,L,O⟩
 ·obtain⟨o,es,ep,Y,r⟩:=hm
  exact⟨o,es,ep,k _ o (fun z=>(F _ z).2.1 rfl) Y,r⟩
 ·refine(I.hok b u e).Ej (fun c v B q=>k c v ?_ q) (fun _ q=>q) fun _ _ q=>q
  rcases B with z|z
  ·rw [z];exact VW b u e
  ·exact VW c _ z
theorem E2 (h:Heap) (a:aay) (o:Obj) (ha:a≠h.objs.size):(h.push o).get? a=h.get? a:=by
 cases h
 simp only [Heap.push,Heap.get?,Array.getElem?_push]
 rw [if_neg ha]
noncomputable def Vo (K:aaa) (a:aay):It :=
 ⟨fun i H=>∃xs x,aC K H a xs/\xs[i]?=some x,fun i H x H'=>∃t v,H t=none/\H'=upd H t (.tup [.int (i:Int),v])/\x=.ref t/\∀xs,aC K H a xs->xs[i]?=some v,fun i H=>∃xs,aC K H a xs/\xs.length<=i⟩
theorem KH {P:abn} {w:abU} {K:aaa} {elts:List Expr} {x1:Nat} {pos:Pos} (a e it:aay) (L:e≠it):Turn P w K (.Tuple elts x1 pos) (Vo K a) [e,it] e (fun i h=>(∃old,IsEnum h e it ((i:Nat):Int) old)/\h.IsListIter it a i) where
 mem:=by simp
 obj:=fun i h st b B=>by
  obtain⟨⟨old,Pm⟩,Kg⟩:=st
  rcases(by simpa using B:b=e\/b=it) with z|z
  ·subst z
   exact⟨_,Pm,fun v z=>nomatch z⟩
  ·subst z
   obtain⟨o,e,c,d⟩:=Kg
   exact⟨o,e,fun v z=>by rw [d] at z;cases z⟩
 keep:=fun i h h' st k=>by
  obtain⟨⟨old,Pm⟩,Kg⟩:=st
  exact⟨⟨old,k e (by simp) _ Pm⟩,Kg.at fun o q=>k it (by simp) o q⟩
 item:=by
  intro X Y hw V hc i pins s σ H E I G st Z
  subst Y hw V
  obtain⟨⟨old,Pm⟩,Kg⟩:=st
  obtain⟨xs,x,O,hx⟩:=Z
  obtain⟨its,rv,p,hz⟩:=I.list O
  obtain⟨u,hu,ru⟩:=rv.get hx
  have fe:=G e (by simp)
  have fi:=G it (by simp)
  refine wpAny_pyNext_enum_item Pm Kg p.isList (x:=u) (by simpa using hu) L fun h1 RM abG zj a1 Qq=>?_
  refine⟨_,rfl,wpAny_letOwnedTupleGo_enum RM fun h2 Zo BU=>?_⟩
  replace BU:aek e h1 h2:=BU
  have Gx:H s.heap.objs.size=none:=I.hok.fresh (aar _)
  have F:e<s.heap.objs.size:=aaA Pm
  have T8:it<s.heap.objs.size:=by
   obtain⟨o,q,_⟩:=id Kg
   exact aaA q
  have qJ:h2.get? s.heap.objs.size=some { cls:=.type "tuple",data:=.seq #[.int i s.toks,u] }:=(BU.2 _ (adz F)).trans zj
  have I1:Inv X pins σ (upd H s.heap.objs.size (.tup [.int (i:Int),x])) { s with heap:=s.heap.push { cls:=.type "tuple",data:=.seq #[.int i s.toks,u] },toks:=s.toks+1 }:=by
   refine I.laid (t':=s.toks+1) (fun b u q=>aag _ q) (aar _) ?_
   exact⟨(by show 2<=aaj;decide),[.int i s.toks,u],.cons ⟨_,rfl⟩ (.cons ru .nil),⟨_,aa0 _ rfl,rfl,0,rfl⟩⟩
  have I2:Inv X pins σ (upd H s.heap.objs.size (.tup [.int (i:Int),x])) { s with heap:=h2,toks:=s.toks+1 }:=by
   refine Inv.Qp (s:={ s with heap:=s.heap.push { cls:=.type "tuple",data:=.seq #[.int i s.toks,u] },toks:=s.toks+1 }) (h':=h2) (t':=s.toks+1) (ch:=[e,it]) I1 (fun b o B q=>?_) (fun b B=>?_)
   ·have J:b≠e:=fun z=>B (by simp [z])
    have Sb:b≠it:=fun z=>B (by simp [z])
    by_cases Zh:b=s.heap.objs.size
    ·subst Zh
     have q2:(s.heap.push { cls:=.type "tuple",data:=.seq #[.int i s.toks,u] }).get? s.heap.objs.size=some o:=q
     rw [aa0 _ rfl] at q2
     rw [qJ,<- q2]
    ·have q2:(s.heap.push { cls:=.type "tuple",data:=.seq #[.int i s.toks,u] }).get? b=some o:=q
     have q3:s.heap.get? b=some o:=(E2 _ _ _ Zh).symm.trans q2
     exact(BU.2 b J).trans (Qq b o J Sb q3)
   ·have f:=G b B
    refine⟨?_,f.2.1,f.2.2.2.1,f.2.2.2.2.1,f.2.2.2.2.2⟩
    rw [aD]
    ·exact f.1
    ·rcases(by simpa using B:b=e\/b=it) with z|z <;> rw [z]
     ·exact abj F
     ·exact abj T8
  refine⟨.ref s.heap.objs.size,_,I2,rfl,⟨_,x,Gx,rfl,rfl,fun ys hy=>by rw [I.Ek hy O];exact hx⟩,⟨⟨u,?_⟩,?_⟩,fun b B=>?_⟩
  ·show IsEnum h2 e it (((i+1:Nat)):Int) u
   have e1:(((i+1:Nat)):Int)=(i:Int)+1:=by push_cast;rfl
   rw [e1]
   exact Zo
  ·exact abG.at fun o q=>(BU.2 it (aea L)).trans q
  ·rw [aD]
   ·exact(G b B).1
   ·rcases(by simpa using B:b=e\/b=it) with z|z <;> rw [z]
    ·exact abj F
    ·exact abj T8
 done:=by
  intro X Y hw V hc i pins s σ H E I G st Z
  subst Y hw V
  obtain⟨⟨old,Pm⟩,Kg⟩:=st
  obtain⟨xs,O,hx⟩:=Z
  obtain⟨its,rv,p,hz⟩:=I.list O
  have hl:=rv.length
  obtain⟨f0,f1,f2,f3,f4,f5⟩:=G it (by simp)
  exact wpAny_pyNext_enum_end (I.ok.hd hc) Pm Kg p.isList (by simp;omega) fun h' eb=>⟨rfl,I.turned (t':=s.toks) (fun b o B e=>eb b o B e) f0 f1 f3 f4 f5⟩
 self:=fun _ _ _ _ _ st h=>by
  obtain⟨⟨old,Pm⟩,_⟩:=st
  exact wpAny_pyIter_enum Pm h
def WM (K:aaa) (tl:TE):TI:=fun σ H R=>tl σ H fun x H1=>∃a,x=.ref a/\(∃xs,aC K H1 a xs)/\R (Vo K a) H1
theorem Qr {l:Expr} {tl:TE} {elts:List Expr} {x1:Nat} {PK p cpos:Pos} (hl:PE X l tl) (O:Gl X "enumerate") (hm:X.mg "enumerate"=none) (Y:bootBuiltins "enumerate"=some (.type "enumerate"))
  (F:autoParam (starEach [l] X.env=(false,eval l X.env)::starEach [] X.env) z0._auto_1):PI X (.Tuple elts x1 PK) (.Call (.Name "enumerate" p) [l] [] cpos) (WM X.K tl):=by
 intro pins s σ H R I h
 refine wpAny_Call_Name_kw (pA I O hm Y ?_ (by decide) (by decide))
 have WN:PA X [l] (vQ tl GN):=aa hl af F
 refine ac2 (thn (WN cpos pins s σ H (fun vs H1=>match vs with|[x]=>∃a,x=.ref a/\(∃xs,aC X.K H1 a xs)/\R (Vo X.K a) H1|_=>False) I h) fun us s1 Zq=>?_) F rfl
 obtain⟨vs,H1,I1,J,q1⟩:=Zq
 match vs,J,q1 with
 | [x],J,⟨a,ex,⟨xs,V⟩,q⟩ =>
  subst ex
  obtain⟨u,rfl,ru⟩:=vals1 J
  cases ru
  obtain⟨its,rv,p,hz⟩:=I1.list V
  refine call_enumerate_list p.isList fun h' F G Z hk=>wpAny_pyIter_enum F ?_
  refine⟨s1.heap.objs.size+1,[s1.heap.objs.size+1,s1.heap.objs.size],_,_,H1,rfl,I1.kept (t':=s1.toks) hk,KH a _ _ (Nat.succ_ne_self _),⟨⟨_,F⟩,G⟩,fun b L=>?_,q⟩
  have B:s1.heap.objs.size<=b:=by
   rcases(by simpa using L:b=s1.heap.objs.size+1\/b=s1.heap.objs.size) with z|z <;> rw [z]
   ·exact Nat.le_succ _
   ·exact aar _
  exact I1.Kc B (I1.hok.fresh B)
theorem NT {K:aaa} {a:aay} {xs:List V} {g:TG} {tb:TS} {D:Ends} {σ:St} {H:Hp} (Pv:Nat->St->Hp->Prop) (h0:Pv 0 σ H) (hl:∀i σ H,i<=xs.length->Pv i σ H->aC K H a xs)
  (hs:∀i x σ H t,xs[i]?=some x->Pv i σ H->H t=none->g (.ref t) σ (upd H t (.tup [.int (i:Int),x])) fun σ2 U=>tb { D with nx:=Pv (i+1),ct:=Pv (i+1),bk:=D.nx } σ2 U) (hd:∀σ H,Pv xs.length σ H->D.nx σ H) :
  ∃W:Nat->Nat->St->Hp->Prop,(∃m,W 0 m σ H)/\∀i m σ H,W i m σ H ->
   ((Vo K a).stop i H/\D.nx σ H)\/((Vo K a).go i H/\∃N:St->Hp->Prop,(∀σ' H',N σ' H'->∃z,z<m/\W (i+1) z σ' H')/\∀x H',(Vo K a).RO i H x H'->g x σ H' fun σ2 U=>tb { D with nx:=N,ct:=N,bk:=D.nx } σ2 U):=by
 refine⟨fun i m σ H=>m=xs.length - i/\i<=xs.length/\Pv i σ H,⟨xs.length,by simp,ab4 _,h0⟩,?_⟩
 rintro i m σ H ⟨rfl,hi,p⟩
 have q:=hl i σ H hi p
 by_cases mi:i<xs.length
 ·refine .inr ⟨⟨xs,xs[i],q,by simp [mi]⟩,Pv (i+1),fun σ' H' G=>⟨xs.length - (i+1),by omega,rfl,mi,G⟩,fun x H' y=>?_⟩
  obtain⟨t,v,B,rfl,rfl,F⟩:=y
  exact hs i v σ H t (F xs q) p B
 ·have e:i=xs.length:=by omega
  exact .inl ⟨⟨xs,q,by omega⟩,hd σ H (by rw [<- e];exact p)⟩
end
section
variable {prog:abn} {w:abU} {A:abP} {E:aae->aah->Prop} {s:aah}
end
section
variable {X:Cx}
end
section
variable {X:Cx}
def WQ:R2:=fun x y H Q=>∃(c:Nat) (n:Int),x=.str ⟨#[c]⟩/\y=.int n/\-(2 ^ 62)<=n/\n<=1000000/\Q (.str ⟨(abL n.toNat c).toArray⟩) H
theorem A8 (c:Nat):∀(k:Nat) (a:Array Nat),(abL k (#[c]:Array Nat)).foldl (fun q z=>q++z) a=a++(abL k c).toArray
 | 0,a=>by simp
 | k+1,a=>by
  rw [aeV,List.foldl_cons,A8 c k,aeV]
  apply Array.ext'
  simp
theorem JE:qc X (binaryOp .Mult) WQ:=by
 intro pins s σ H x y v u Q I rx ry h
 obtain⟨c,n,rfl,rfl,h1,h2,q⟩:=h
 obtain⟨t,rfl⟩:=rx
 obtain⟨t',rfl⟩:=ry
 have hl:(⟨#[c]⟩:Str).length=1:=rfl
 refine PySem.P.mul_str ?_ (fun a b=>?_) (fun a b=>?_) ?_
 ·have G:¬ n < -(2 ^ 63:Int):=by omega
  have J:¬ n≥2 ^ 63:=by omega
  rw [decide_eq_false G,decide_eq_false J]
  rfl
 ·rw [hl]
  have:(1:Int)<=(2 ^ 63 - 1) / n:=by
   rw [Int.le_ediv_iff_mul_le (by omega)]
   omega
  omega
 ·rw [hl]
  have e:(2:Nat) ^ 24=16777216:=by decide
  unfold Builtin.Str.tooLong aaj
  exact decide_eq_false (by omega)
 ·by_cases a:n<1
  ·rw [if_pos a]
   refine⟨by decide,⟨.str _,H,I.tok _,⟨_,rfl⟩,?_⟩⟩
   have e:n.toNat=0:=by omega
   rw [e] at q
   exact q
  ·rw [if_neg a]
   by_cases b:(n == 1 || (⟨#[c]⟩:Str).length == 0)=true
   ·rw [if_pos b]
    have z:n=1:=by
     rw [hl] at b
     simpa using b
    refine⟨.str _,H,I,⟨_,rfl⟩,?_⟩
    rw [z] at q
    exact q
   ·rw [if_neg b]
    have e:(⟨(abL n.toNat (⟨#[c]⟩:Str).cps).foldl (· ++ ·) #[]⟩:Str)=⟨(abL n.toNat c).toArray⟩:=by
     show(⟨(abL n.toNat (#[c]:Array Nat)).foldl (fun B F=>B++F) #[]⟩:Str)=_
     rw [A8]
     simp
    rw [e]
    refine⟨?_,⟨.str _,H,I.tok _,⟨_,rfl⟩,q⟩⟩
    rw [aaz]
    show(abL n.toNat c).toArray.size<=_
    simp
    omega
end
section
variable {X:Cx}
end
section
variable {X:Cx}
end
section
variable {X:Cx}
theorem neA {a b:Nat} (h:a<b\/b<a):a≠b:=fun e=>by omega
end
section
variable {X:Cx} {pins:List (aay × Obj)} {σ:St}
end
section
variable {X:Cx}
end
end L2
namespace Bk
open PySem L2 cE
noncomputable abbrev bare (n:Cs):Fc:=⟨n,[]⟩
theorem Qs:bu 59=false:=by decide +kernel
theorem NU:bu 58=false:=by decide +kernel
noncomputable abbrev fj:Cs:=[97,98,99,100,101,102,103,104]
noncomputable def nameOf (a b k:Nat):Cs:=abL a 109++([fj.getD k 0]++abL b 109)
def Hd:Sp:=fun vs H Q _=>∃(st:Int) (k:Nat),vs=[.int st,.int k]/\0<=st/\k<8/\∀a b:Nat,a=(st / 5 % (1+st % 5)).toNat->b=(1+st % 5 - 1 - st / 5 % (1+st % 5)).toNat->a+b<=4->Q (tx (nameOf a b k)) H
theorem gp {a b k:Nat} (hk:k<8) (B:a+b<=4):br (nameOf a b k)=true:=by
 have all:∀k,k<8->bu (fj.getD k 0)=true/\(fj.getD k 0)∈fM.cps.toList:=by
  intro k hk
  rcases(by omega:k=0\/k=1\/k=2\/k=3\/k=4\/k=5\/k=6\/k=7) with e|e|e|e|e|e|e|e <;> subst e <;> exact⟨by decide +kernel,by decide +kernel⟩
 have rep:∀n:Nat,(abL n 109).all bu=true:=fun n=>by
  rw [ab3]
  intro x F
  rw [(List.mem_replicate.mp F).2]
  decide +kernel
 unfold br aI nameOf
 have q:(abL a 109++([fj.getD k 0]++abL b 109)).all bu=true:=by
  rw [abJ,abJ,rep,rep,ab6,(all k hk).1]
  rfl
 have z:(abL a 109++([fj.getD k 0]++abL b 109)).headD 0∈fM.cps.toList:=by
  cases a with
  | zero=>exact(all k hk).2
  | succ a =>
   show(109:Nat)∈fM.cps.toList
   decide +kernel
 rw [q,decide_eq_true z]
 simp only [aab,adn,aal,abN,Bool.and_true,abg,decide_eq_true_eq]
 omega
theorem wD {a b j k:Nat} (z:j<8) (hk:k<8) (h:nameOf a b j=nameOf a b k):j=k:=by
 unfold nameOf at h
 have h2:=List.append_inj_right h rfl
 have q:fj.getD j 0=fj.getD k 0:=(List.cons.inj h2).1
 have e:fj.Nodup:=by decide
 have gd:∀i,i<8->fj.getD i 0=97+i:=by
  intro i hi
  rcases(by omega:i=0\/i=1\/i=2\/i=3\/i=4\/i=5\/i=6\/i=7) with e|e|e|e|e|e|e|e <;> subst e <;> rfl
 rw [gd j z,gd k hk] at q
 omega
end Bk
namespace L2
open PySem PySem.W PyProof.Rows
def eU {α:Type} (lt:Nat->Nat->Bool) (n:Nat):KasT α->(α->Prop)->Prop
 | .ret a,Q=>Q a
 | .ask i j k,Q=>i<n/\j<n/\eU lt n (k (lt i j)) Q
theorem eU.mono {α:Type} {lt:Nat->Nat->Bool} {n:Nat} {Q q:α->Prop} (z:∀a,Q a->q a):∀{t:KasT α},eU lt n t Q->eU lt n t q
 | .ret _,h=>z _ h
 | .ask _ _ _,⟨h1,h2,B⟩=>⟨h1,h2,eU.mono z B⟩
theorem eU.bind {α β:Type} {lt:Nat->Nat->Bool} {n:Nat} {f:α->KasT β} {Q:β->Prop}:∀{t:KasT α},eU lt n t (fun a=>eU lt n (f a) Q)->eU lt n (t.bind f) Q
 | .ret _,h=>h
 | .ask _ _ _,⟨h1,h2,q⟩=>⟨h1,h2,eU.bind q⟩
theorem eU.wp {α:Type} {lt:Nat->Nat->Bool} {n:Nat} {Q:α->Prop} {cmp:Nat->Nat->(Bool->aah->Prop)->aah->Prop} {R:α->aah->Prop} {s:aah} (q:∀i j C,i<n->j<n->C (lt i j) s->cmp i j C s) (z:∀a,Q a->R a s) :
  ∀{t:KasT α},eU lt n t Q->t.kasWp cmp R s
 | .ret _,h=>z _ h
 | .ask _ _ _,⟨h1,h2,B⟩=>q _ _ _ h1 h2 (eU.wp q z B)
structure WO (lt:Nat->Nat->Bool):Prop where
 Cd:∀a b,lt a b=true->lt b a=false
 tr:∀a b c,lt b a=false->lt c b=false->lt c a=false
theorem WO.Vp {lt:Nat->Nat->Bool} (W:WO lt) (a:Nat):lt a a=false:=by
 cases h:lt a a with
 | false=>rfl
 | true=>have:=W.Cd a a h;rw [h] at this;exact this
theorem WO.up {lt:Nat->Nat->Bool} (W:WO lt) {a b c:Nat} (h1:lt a b=true) (h2:lt c b=false):lt a c=true:=by
 cases h:lt a c with
 | true=>rfl
 | false=>have:=W.tr b c a h2 h;rw [h1] at this;exact this.symm
def Ee (lt:Nat->Nat->Bool) (p:Array Nat) (m:Nat):Prop:=∀i j,i<j->j<m->lt (p.getD j 0) (p.getD i 0)=false
def Mn (lt:Nat->Nat->Bool) (p:Array Nat) (m:Nat):Prop:=∀i j,i<j->j<m->lt (p.getD i 0) (p.getD j 0)=false
def Arr (n:Nat) (p:Array Nat):Prop:=p.size=n/\p.toList.Perm (acr n)
theorem Arr.lt {n:Nat} {p:Array Nat} (h:Arr n p) {k:Nat} (hk:k<n):p.getD k 0<n:=by
 have hs:k<p.size:=by rw [h.1];exact hk
 have e:p.getD k 0=p[k]:=by simp [Array.getD,hs]
 rw [e]
 have m:p[k]∈p.toList:=by simp
 exact acy.mp (h.2.mem_iff.mp m)
theorem Arr.of {n:Nat} {p q:Array Nat} (h:Arr n p) (z:q.Perm p):Arr n q:=⟨z.size_eq.trans h.1,(Array.perm_iff_toList_perm.mp z).trans h.2⟩
theorem gL {p:Array Nat} {i j:Nat} (q:j<=p.size) (k:Nat):(kas_rev p i j).getD k 0=if i<=k/\k<j then p.getD (i+j - 1 - k) 0 else p.getD k 0:=by
 rw [abV,abV,abV]
 unfold kas_rev
 rw [getElem?_mirror_all q k]
 split <;> rfl
theorem E3 {p:Array Nat} {src d:Nat} (hs:src<p.size) (hd:d<=src) (k:Nat):(bubble p src d).getD k 0=if k=src - d then p.getD src 0 else if src - d<k/\k<=src then p.getD (k - 1) 0 else p.getD k 0:=by
 rw [abV,abV,abV,abV]
 rw [getElem?_bubble hs d hd k]
 split
 ·rfl
 ·split <;> rfl
theorem Arr.rev {n:Nat} {p:Array Nat} (h:Arr n p) (i j:Nat):Arr n (kas_rev p i j):=h.of (mirror_perm _ _ _ _)
theorem Arr.bub {n:Nat} {p:Array Nat} (h:Arr n p) (i j:Nat):Arr n (bubble p i j):=h.of (bubble_perm _ _ _)
section
variable {lt:Nat->Nat->Bool} {n:Nat} (W:WO lt)
include W
theorem Ee.more {p:Array Nat} {m:Nat} (h:Ee lt p m) (h1:1<=m) (hl:lt (p.getD m 0) (p.getD (m - 1) 0)=false):Ee lt p (m+1):=fun i j Ji z=>by
 by_cases e:j=m
 ·subst e
  by_cases q:i=j - 1
  ·subst q;exact hl
  ·exact W.tr _ _ _ (h i (j - 1) (by omega) (by omega)) hl
 ·exact h i j Ji (by omega)
theorem Mn.more {p:Array Nat} {m:Nat} (h:Mn lt p m) (h1:1<=m) (hl:lt (p.getD (m - 1) 0) (p.getD m 0)=false):Mn lt p (m+1):=fun i j Ji z=>by
 by_cases e:j=m
 ·subst e
  by_cases q:i=j - 1
  ·subst q;exact hl
  ·exact W.tr _ _ _ hl (h i (j - 1) (by omega) (by omega))
 ·exact h i j Ji (by omega)
theorem He {p:Array Nat} (q:Arr n p):∀(f m:Nat),1<=m->m+f<=n->Ee lt p m ->
  eU lt n (kas_asc p f m) (fun r=>m<=r/\r<=m+f/\Ee lt p r/\(r<m+f->lt (p.getD r 0) (p.getD (r - 1) 0)=true))
 | 0,m,_,_,h=>⟨aar _,aar _,h,fun z=>absurd z (by omega)⟩
 | f+1,m,h1,h2,h=>by
  refine⟨q.lt (by omega),q.lt (by omega),?_⟩
  cases e:lt (p.getD m 0) (p.getD (m - 1) 0) with
  | true=>exact⟨aar _,by omega,h,fun _=>e⟩
  | false =>
   show eU lt n (kas_asc p f (m+1)) _
   exact(He q f (m+1) (by omega) (by omega) (h.more W h1 e)).mono fun r ⟨a,b,c,d⟩=>⟨by omega,by omega,c,fun z=>d (by omega)⟩
def Zp (lt:Nat->Nat->Bool) (p:Array Nat) (a b:Nat):Prop:=∀i j,a<=i->i<b->a<=j->j<b->lt (p.getD i 0) (p.getD j 0)=false
omit W in
theorem Mn.rev {p:Array Nat} {a m:Nat} (hm:m<=p.size) (h:Mn lt p m) (z:Zp lt p a m):Mn lt (kas_rev p a m) m:=fun i j Ji q=>by
 rw [gL hm,gL hm]
 by_cases h1:a<=i
 ·rw [if_pos ⟨h1,by omega⟩,if_pos ⟨by omega,q⟩]
  exact z _ _ (by omega) (by omega) (by omega) (by omega)
 ·rw [if_neg (by omega)]
  by_cases h2:a<=j
  ·rw [if_pos ⟨h2,q⟩]
   exact h _ _ (by omega) (by omega)
  ·rw [if_neg (by omega)]
   exact h i j Ji q
theorem vF:∀(f:Nat) (p:Array Nat) (m q:Nat),Arr n p->q+1<=m->m+f=n->Mn lt p m->Zp lt p (m - (q+1)) m ->
  eU lt n (kas_desc f p m q) (fun r=>Arr n r.1/\r.2.1<=n/\r.2.2+1<=r.2.1/\Mn lt r.1 r.2.1/\Zp lt r.1 (r.2.1 - (r.2.2+1)) r.2.1)
 | 0,p,m,q,B,L,hm,h,F=>⟨B,by show m<=n;omega,L,h,F⟩
 | f+1,p,m,q,B,L,hm,h,F=>by
  refine⟨B.lt (by omega),B.lt (by omega),?_⟩
  have hsz:m<=p.size:=by rw [B.1];omega
  cases e:lt (p.getD m 0) (p.getD (m - 1) 0) with
  | true =>
   show eU lt n (if q > 0 then _ else _) _
   split
   ·have hr:=h.rev hsz F
    have e1:(kas_rev p (m - (q+1)) m).getD m 0=p.getD m 0:=by rw [gL hsz,if_neg (by omega)]
    have hl:lt ((kas_rev p (m - (q+1)) m).getD (m - 1) 0) ((kas_rev p (m - (q+1)) m).getD m 0)=false:=by
     rw [e1,gL hsz,if_pos ⟨by omega,by omega⟩]
     have G:m - (q+1)+m - 1 - (m - 1)=m - (q+1):=by omega
     rw [G]
     exact W.tr _ _ _ (W.Cd _ _ e) (F (m - (q+1)) (m - 1) (by omega) (by omega) (by omega) (by omega))
    refine vF f _ (m+1) 0 (B.rev _ _) (by omega) (by omega) (hr.more W (by omega) hl) fun i j O V Y Z=>?_
    obtain rfl:i=j:=by omega
    exact W.Vp _
   ·refine vF f p (m+1) 0 B (by omega) (by omega) (h.more W (by omega) (W.Cd _ _ e)) fun i j O V Y Z=>?_
    obtain rfl:i=j:=by omega
    exact W.Vp _
  | false =>
   show eU lt n (.ask (p.getD (m - 1) 0) (p.getD m 0) _) _
   refine⟨B.lt (by omega),B.lt (by omega),?_⟩
   cases G:lt (p.getD (m - 1) 0) (p.getD m 0) with
   | true=>exact⟨B,by show m<=n;omega,L,h,F⟩
   | false =>
    show eU lt n (kas_desc f p (m+1) (q+1)) _
    refine vF f p (m+1) (q+1) B (by omega) (by omega) (h.more W (by omega) G) fun i j O V Y Z=>?_
    by_cases c1:i=m
    ·subst c1
     by_cases J:j=i
     ·subst J;exact W.Vp _
     ·exact W.tr _ _ _ (F j (i - 1) (by omega) (by omega) (by omega) (by omega) |> fun z=>F (i - 1) j (by omega) (by omega) (by omega) (by omega)) e
    ·by_cases J:j=m
     ·subst J
      exact W.tr _ _ _ G (F i (j - 1) (by omega) (by omega) (by omega) (by omega))
     ·exact F i j (by omega) (by omega) (by omega) (by omega)
theorem E4 {p:Array Nat} {m:Nat} (q:Arr n p) (h1:1<=m) (hm:m<=n) (h:Mn lt p m):eU lt n (kas_tail3 m n p) (fun r=>Arr n r.2/\1<=r.1/\r.1<=n/\Ee lt r.2 r.1):=by
 have hsz:m<=p.size:=by rw [q.1];exact hm
 have hr:Ee lt (kas_rev p 0 m) m:=fun i j Ji z=>by
  rw [gL hsz,gL hsz,if_pos ⟨by omega,z⟩,if_pos ⟨by omega,by omega⟩]
  exact h _ _ (by omega) (by omega)
 refine eU.bind ((He W (q.rev 0 m) (n - m) m h1 (by omega) hr).mono fun r Zq=>?_)
 obtain⟨a,b,c,_⟩:=Zq
 exact⟨q.rev 0 m,by show 1<=r;omega,by show r<=n;omega,c⟩
theorem uo {p:Array Nat} {m:Nat} (q:Arr n p) (hm:m+1<=n) (h:Mn lt p (m+1)):eU lt n (kas_descPart m n p) (fun r=>Arr n r.2/\1<=r.1/\r.1<=n/\Ee lt r.2 r.1):=by
 refine eU.bind ((vF W (n - (m+1)) p (m+1) 0 q (by omega) (by omega) h fun i j z B F G=>?_).mono fun r ⟨a,b,c,d,e⟩=>?_)
 ·obtain rfl:i=j:=by omega
  exact W.Vp _
 ·split
  ·exact E4 W (a.rev _ _) (by omega) b (d.rev (by rw [a.1];exact b) e)
  ·exact E4 W a (by omega) b d
theorem NV {p:Array Nat} (q:Arr n p) (h1:1<=n):eU lt n (kas_count n p) (fun r=>Arr n r.2/\1<=r.1/\r.1<=n/\Ee lt r.2 r.1):=by
 refine eU.bind ((He W q (n - 1) 1 (aar _) (by omega) fun i j a b=>absurd a (by omega)).mono fun m Zq=>?_)
 obtain⟨a,b,c,d⟩:=Zq
 split
 ·exact⟨q,a,by show m<=n;omega,c⟩
 ·rename_i F
  have G:m≠n:=fun z=>F (beq_iff_eq.mpr z)
  have hd:=d (by omega)
  split
  ·refine⟨q.lt (by omega),q.lt (by omega),?_⟩
   cases e:lt (p.getD 0 0) (p.getD (m - 1) 0) with
   | true=>exact⟨q,a,by show m<=n;omega,c⟩
   | false =>
    show eU lt n (kas_descPart m n (kas_rev p 0 m)) _
    have hsz:m<=p.size:=by rw [q.1];omega
    have all:Zp lt p 0 m:=fun i j _ hi _ B=>by
     have O:lt (p.getD (m - 1) 0) (p.getD j 0)=false:=by
      by_cases cj:j=m - 1
      ·subst cj;exact W.Vp _
      ·exact c j (m - 1) (by omega) (by omega)
     have V:lt (p.getD i 0) (p.getD 0 0)=false:=by
      by_cases ci:i=0
      ·subst ci;exact W.Vp _
      ·exact c 0 i (by omega) hi
     exact W.tr _ _ _ (W.tr _ _ _ O e) V
    have L:Mn lt (kas_rev p 0 m) m:=Mn.rev hsz (fun i j Ji B=>all i j (by omega) (by omega) (by omega) B) all
    refine uo W (q.rev 0 m) (by omega) (L.more W a ?_)
    rw [gL hsz,gL hsz,if_pos ⟨by omega,by omega⟩,if_neg (by omega)]
    have J:0+m - 1 - (m - 1)=0:=by omega
    rw [J]
    exact W.tr _ _ _ (W.Cd _ _ hd) e
  ·obtain rfl:m=1:=by omega
   refine uo W q (by omega) fun i j Ji B=>?_
   obtain rfl:i=0:=by omega
   obtain rfl:j=1:=by omega
   exact W.Cd _ _ hd
theorem wF {p:Array Nat} {k:Nat} (z:Arr n p) (hk:k<n) (h:Ee lt p k):∀(f l r:Nat),l<=r->r<=k->r - l<=f->(∀i,i<l->lt (p.getD k 0) (p.getD i 0)=false)->(∀i,r<=i->i<k->lt (p.getD k 0) (p.getD i 0)=true) ->
  eU lt n (kas_place p k f l r) (fun x=>x<=k/\(∀i,i<x->lt (p.getD k 0) (p.getD i 0)=false)/\∀i,x<=i->i<k->lt (p.getD k 0) (p.getD i 0)=true)
 | 0,l,r,a,b,c,d,e=>by
  obtain rfl:l=r:=by omega
  exact⟨b,d,e⟩
 | f+1,l,r,a,b,c,d,e=>by
  show eU lt n (if l≥r then _ else _) _
  split
  ·obtain rfl:l=r:=by omega
   exact⟨b,d,e⟩
  ·refine⟨z.lt hk,z.lt (by omega),?_⟩
   cases q:lt (p.getD k 0) (p.getD ((l+r) / 2) 0) with
   | true =>
    refine wF z hk h f l ((l+r) / 2) (by omega) (by omega) (by omega) d fun i h1 h2=>?_
    by_cases B:i=(l+r) / 2
    ·subst B;exact q
    ·exact W.up q (h _ i (by omega) h2)
   | false =>
    refine wF z hk h f ((l+r) / 2+1) r (by omega) b (by omega) (fun i h1=>?_) e
    by_cases B:i=(l+r) / 2
    ·subst B;exact q
    ·exact W.tr _ _ _ (h i ((l+r) / 2) (by omega) (by omega)) q
theorem NW:∀(f:Nat) (p:Array Nat) (k:Nat),Arr n p->k+f=n->Ee lt p k->eU lt n (kas_bin f p k) (fun q=>Arr n q/\Ee lt q n)
 | 0,p,k,B,hk,h=>by
  obtain rfl:k=n:=by omega
  exact⟨B,h⟩
 | f+1,p,k,B,hk,h=>by
  refine eU.bind ((wF W B (by omega) h k 0 k (ab4 _) (aar _) (by omega) (fun i z=>absurd z (by omega)) fun i F J=>absurd F (by omega)).mono fun l Zq=>?_)
  obtain⟨a,b,c⟩:=Zq
  have hs:k<p.size:=by rw [B.1];omega
  refine NW f _ (k+1) (B.bub _ _) (by omega) fun i j Ji G=>?_
  have e:k - (k - l)=l:=by omega
  rw [E3 hs (by omega),E3 hs (by omega),e]
  by_cases j1:j=l
  ·rw [if_pos j1,if_neg (by omega),if_neg (by omega)]
   exact b i (by omega)
  ·rw [if_neg j1]
   by_cases j2:l<j/\j<=k
   ·rw [if_pos j2]
    by_cases i1:i=l
    ·rw [if_pos i1]
     exact W.Cd _ _ (c (j - 1) (by omega) (by omega))
    ·rw [if_neg i1]
     by_cases i2:l<i/\i<=k
     ·rw [if_pos i2];exact h _ _ (by omega) (by omega)
     ·rw [if_neg i2];exact h _ _ (by omega) (by omega)
   ·rw [if_neg j2,if_neg (by omega),if_neg (by omega)]
    exact h i j Ji (by omega)
theorem Qt (h1:1<=n):eU lt n (kas_sort n) (fun p=>Arr n p/\Ee lt p n):=by
 have h0:Arr n (agp (acr n)):=⟨by simp,by simp⟩
 refine eU.bind ((NV W h0 h1).mono fun r Zq=>?_)
 obtain⟨a,b,c,d⟩:=Zq
 have hm:max r.1 1=r.1:=by omega
 split
 ·rw [hm]
  exact NW W _ _ _ a (by omega) d
 ·have e:r.1=n:=by omega
  rw [e] at d
  exact⟨a,d⟩
end
end L2
namespace L2
open PySem PySem.W PySem.Calls PyProof.Rows
section
variable {prog:abn} {w:abU} {A:abP} {E:aae->aah->Prop} {s:aah}
theorem zm {a:aay} {vs:List aae} {n:Nat} {κ:SortKind} {lt:Nat->Nat->Bool} {P:PySem.Fin->aah->Prop} (W:WO lt) (J:s.heap.get? a=some (seqObj "list" vs.toArray n)) (Zq:vs.length<64)
  (hk:2<=vs.length->∀h',(∀b o,b≠a->s.heap.get? b=some o->h'.get? b=some o)->∀Q:SortKind->aah->Prop,Q κ { s with heap:=h' }->aby (model prog w) A (keyKind' vs.toArray) Q (fun _ _=>False) { s with heap:=h' })
  (hc:∀h',(∀b o,b≠a->s.heap.get? b=some o->h'.get? b=some o)->∀i j (C:Bool->aah->Prop),i<vs.length->j<vs.length->C (lt i j) { s with heap:=h' } ->
   aby (model prog w) A (keyLt' κ (vs.getD i ack) (vs.getD j ack)) C (fun _ _=>False) { s with heap:=h' })
  (fin:∀p h' c,Arr vs.length p->Ee lt p vs.length->(∀b o,b≠a->s.heap.get? b=some o->h'.get? b=some o)->h'.get? a=some (seqObj "list" (agp (p.toList.map fun i=>vs.getD i ack)) c)->P (.done (.ret .none)) { s with heap:=h' }) :
  aby (model prog w) A (Builtin.«list.sort» ⟨[.ref a],[]⟩) P E s:=by
 have ha:a<s.heap.objs.size:=aaA J
 obtain⟨V,Vq⟩:∃V,(s.heap.update a (adf fun _=>(#[]:Array aae))).get? a=some (seqObj "list" #[] V):=⟨_,get?_update_seq J fun _=>#[]⟩
 have WR:(((s.heap.update a (adf fun _=>(#[]:Array aae))).push (seqObj "tuple" vs.toArray 0)).push (seqObj "list" #[] 0)).get? a=some (seqObj "list" #[] V):=by
  rw [adZ _ _ _ (by rw [size_push',aeS];exact abj (aev ha)),adZ _ _ _ (by rw [aeS];exact abj ha)]
  exact Vq
 have keep:∀b o,b≠a->s.heap.get? b=some o->(((s.heap.update a (adf fun _=>(#[]:Array aae))).push (seqObj "tuple" vs.toArray 0)).push (seqObj "list" #[] 0)).get? b=some o:=fun b o F q=>by
  have mi:b<s.heap.objs.size:=aaA q
  rw [adZ _ _ _ (by rw [size_push',aeS];exact abj (aev mi)),adZ _ _ _ (by rw [aeS];exact abj mi),agA _ _ _ _ F]
  exact q
 have WT:∀p (arr:Array aae),Arr vs.length p->Ee lt p vs.length->arr=agp (p.toList.map fun i=>vs.getD i ack)->P (.done (.ret .none)) { s with heap:=((((s.heap.update a (adf fun _=>(#[]:Array aae))).push (seqObj "tuple" vs.toArray 0)).push (seqObj "list" #[] 0))).update a (adf fun _=>arr) }:=fun p arr h1 h2 B=>by
  subst B
  refine fin p _ _ h1 h2 (fun b o F q=>?_) (get?_update_seq WR fun _=>_)
  rw [agA _ _ _ _ F]
  exact keep b o F q
 rw [list_sort_plain]
 refine aac (listItems_at J rfl ?_)
 refine aac (listUpdate_at J rfl ?_ (by rw [aaB,aaz];omega) (ab4 _))
 refine aac (seqEpoch_at Vq rfl ?_)
 refine aac (wpAny_newTuple ?_ (by show vs.length<=_;rw [aaz];omega))
 refine aac (wpAny_newList ?_ (ab4 _))
 refine wpAny_holding ?_
 show aby (model prog w) A _ P E { s with heap:=((s.heap.update a (adf fun _=>(#[]:Array aae))).push (seqObj "tuple" vs.toArray 0)).push (seqObj "list" #[] 0) }
 dsimp only
 by_cases h2:vs.toArray.size<2
 ·rw [if_pos h2,if_pos h2]
  refine aac (aav ?_)
  rw [StateT.run_pure]
  refine aac (aav ?_)
  dsimp only
  have hr:(acr vs.length).map (fun i=>vs.getD i ack)=vs:=by
   apply agr (by simp)
   intro i Z L
   simp [L]
  refine aac (seqEpoch_at WR rfl ?_)
  refine aac (listUpdate_at WR rfl ?_ (hsz2:=by rw [Array.size_map];show(pairsOf vs).size<=_;rw [pairsOf_size,aaz];omega))
  simp only [bne_self_eq_false,abQ,if_false]
  refine aav (WT (agp (acr vs.length)) _ ⟨by simp,by simp⟩ (fun i j h1 B=>?_) ?_)
  ·rw [aaB] at h2;omega
  ·show Array.map (·.2) (pairsOf vs)=_
   apply Array.toList_inj.mp
   rw [Array.toList_map,pairsOf_toList]
   show _=(acr vs.length).map (fun i=>vs.getD i ack)
   rw [hr]
   exact List.map_snd_zip (by simp)
 ·rw [if_neg h2,if_neg h2]
  rw [aaB] at h2
  refine aac (wpAny_mono (hk (by omega) _ keep _ ?_) (fun κ' s' hq=>hq) fun _ _ x=>x.elim)
  refine aac (wpAny_mono (kat_run (κ:=κ) (Q:=fun BQ s'=>∃p:Array Nat,arrOf BQ=p.map (kas_item (vs.toArray.zip vs.toArray))/\failedOf BQ=none/\Arr vs.length p/\Ee lt p vs.length/\s'={ s with heap:=((s.heap.update a (adf fun _=>(#[]:Array aae))).push (seqObj "tuple" vs.toArray 0)).push (seqObj "list" #[] 0) })
   (G:=fun p s'=>Arr vs.length p/\Ee lt p vs.length/\s'={ s with heap:=((s.heap.update a (adf fun _=>(#[]:Array aae))).push (seqObj "tuple" vs.toArray 0)).push (seqObj "list" #[] 0) })
   rfl (by omega) Zq (fun p' BQ s' Z L a3 O=>⟨p',L,a3,O.1,O.2.1,O.2.2⟩) ((Qt W (n:=vs.length) (by omega)).wp (fun i j C B h4 h5=>hc _ keep i j C B h4 h5) fun p z=>⟨z.1,z.2,rfl⟩)) ?_ fun _ _ e=>e)
  rintro⟨⟨⟩,BQ⟩ s' ⟨p,Vr,hf,z,Y,rfl⟩
  dsimp only
  have abK:=kat_snds (ks:=vs) rfl Vr
  have hsz:(agp (p.toList.map fun i=>vs.getD i ack)).size=vs.length:=by rw [aaB,Lm9,adF,z.1]
  rw [abK]
  refine aac (seqEpoch_at WR rfl ?_)
  refine aac (listUpdate_at WR rfl ?_ (ab4 _) (ab0 (agO hsz) (by rw [aaz];omega)))
  rw [hf]
  simp only [bne_self_eq_false,abQ,if_false]
  exact aav (WT p _ z Y rfl)
theorem Hf {l:aay} {vs:List aae} {κ:SortKind} {lt:Nat->Nat->Bool} {Q:aae->aah->Prop} (W:WO lt) (hl:s.heap.IsList l vs.toArray) (Zq:vs.length<64)
  (hk:2<=vs.length->∀h',(∀b o,s.heap.get? b=some o->h'.get? b=some o)->∀Q:SortKind->aah->Prop,Q κ { s with heap:=h' }->aby (model prog w) A.in1.in1 (keyKind' vs.toArray) Q (fun _ _=>False) { s with heap:=h' })
  (z:∀h',(∀b o,s.heap.get? b=some o->h'.get? b=some o)->∀i j (C:Bool->aah->Prop),i<vs.length->j<vs.length->C (lt i j) { s with heap:=h' } ->
   aby (model prog w) A.in1.in1 (keyLt' κ (vs.getD i ack) (vs.getD j ack)) C (fun _ _=>False) { s with heap:=h' })
  (fin:∀p D h' c,Arr vs.length p->Ee lt p vs.length->(∀b o,s.heap.get? b=some o->h'.get? b=some o)->s.heap.objs.size<=D->h'.get? D=some (seqObj "list" (agp (p.toList.map fun i=>vs.getD i ack)) c)->Q (.ref D) { s with heap:=h' }) :
  aby (model prog w) A (call (.builtin "sorted") [.ref l]) Q E s:=by
 refine Calls.call_function_entry kind_sorted plain_sorted entry_sorted (args_sorted1 _) ?_
 unfold Builtin.«sorted»
 refine aac (m:=checkCount "sorted" 1 1 _) (aav ?_)
 refine aac (collect_list hl ?_ (by rw [aaz];omega))
 refine aac (wpAny_newList ?_ (by rw [aaz];omega))
 have hsz:((s.heap.push (seqObj "list" #[] 0)).update s.heap.objs.size (adf (·++vs.toArray))).objs.size=s.heap.objs.size+1:=by
  rw [aeS,size_push']
 have Y4:(((s.heap.push (seqObj "list" #[] 0)).update s.heap.objs.size (adf (·++vs.toArray))).push (seqObj "list" vs.toArray 0)).get? (s.heap.objs.size+1)=some (seqObj "list" vs.toArray 0):=by
  rw [<- hsz];exact aa0 _ rfl
 have keep:∀b o,s.heap.get? b=some o->(((s.heap.push (seqObj "list" #[] 0)).update s.heap.objs.size (adf (·++vs.toArray))).push (seqObj "list" vs.toArray 0)).get? b=some o:=fun b o q=>by
  have mi:b<s.heap.objs.size:=aaA q
  rw [adZ _ _ _ (by rw [hsz];exact abj (aev mi)),agA _ _ _ _ (abj mi),adZ _ _ _ (abj mi)]
  exact q
 have nD:∀b o,s.heap.get? b=some o->b≠s.heap.objs.size+1:=fun b o q=>abj (aev (aaA q))
 show aby _ _ _ _ _ { s with heap:=((s.heap.push (seqObj "list" #[] 0)).update s.heap.objs.size (adf (·++vs.toArray))).push (seqObj "list" vs.toArray 0) }
 rw [hsz]
 refine aac (wpAny_holding (wpAny_call_entry slot_list_sort ⟨_,Y4,rfl⟩ entry_list_sort ?body (args_list_sort _)))
 case body =>
  refine zm (κ:=κ) (lt:=lt) (s:={ s with heap:=((s.heap.push (seqObj "list" #[] 0)).update s.heap.objs.size (adf (·++vs.toArray))).push (seqObj "list" vs.toArray 0) }) W Y4 Zq
   (fun h2 h' k=>hk h2 h' fun b o q=>k b o (nD b o q) (keep b o q)) (fun h' k=>z h' fun b o q=>k b o (nD b o q) (keep b o q)) fun p h' c B hr k e=>?_
  exact⟨_,rfl,aav ⟨_,rfl,fin p _ h' c B hr (fun b o q=>k b o (nD b o q) (keep b o q)) (Nat.le_succ _) e⟩⟩
end
inductive Tr where
 | int (i:Int)|str (x:Str)|tup (l:List Tr)
 deriving Inhabited
mutual
noncomputable def Tr.toD:Tr->Dt
 | .int i=>.int i
 | .str x=>.str x
 | .tup l=>.tup (Tr.toDs l)
noncomputable def Tr.toDs:List Tr->List Dt
 | []=>[]
 | a::r=>a.toD::Tr.toDs r
end
theorem toDs_length:∀(l:List Tr),(Tr.toDs l).length=l.length
 | []=>by unfold Tr.toDs;rfl
 | a::r=>by unfold Tr.toDs;simp [toDs_length r]
theorem toDs_get:∀(l:List Tr) (i:Nat) (h:i<l.length) (h':i<(Tr.toDs l).length),(Tr.toDs l)[i]=(l[i]).toD
 | a::r,0,_,_=>by simp [Tr.toDs]
 | a::r,i+1,h,h'=>by
  have:=toDs_get r i (by simpa using h) (by rw [toDs_length];simpa using h)
  simp only [Tr.toDs,ahn]
  exact this
noncomputable def eqT (a b:Tr):Bool:=B3 a.toD b.toD
mutual
theorem Ce:∀(a b:Tr),B3 a.toD b.toD=true↔a=b
 | .int a,.int b=>by simp [Tr.toD,B3]
 | .int a,.str b=>by simp [Tr.toD,B3]
 | .int a,.tup b=>by simp [Tr.toD,B3]
 | .str a,.int b=>by simp [Tr.toD,B3]
 | .str a,.str b=>by simp [Tr.toD,B3]
 | .str a,.tup b=>by simp [Tr.toD,B3]
 | .tup a,.int b=>by simp [Tr.toD,B3]
 | .tup a,.str b=>by simp [Tr.toD,B3]
 | .tup a,.tup b=>by
  have h:=E5 a b
  simp only [Tr.toD,B3,Tr.tup.injEq]
  exact h
theorem E5:∀(a b:List Tr),r9 (Tr.toDs a) (Tr.toDs b)=true↔a=b
 | [],[]=>by simp [Tr.toDs,r9]
 | [],b::q=>by simp [Tr.toDs,r9]
 | a::r,[]=>by simp [Tr.toDs,r9]
 | a::r,b::q=>by
  have h1:=Ce a b
  have h2:=E5 r q
  simp only [Tr.toDs,r9,abg,List.cons.injEq,h1,h2]
end
theorem qK {a b:Tr} (h:eqT a b=true):a=b:=(Ce a b).mp h
theorem mH (a:Tr):eqT a a=true:=(Ce a a).mpr rfl
theorem pJ {a b:Tr} (h:a≠b):eqT a b=false:=by
 cases e:eqT a b with
 | false=>rfl
 | true=>exact absurd (qK e) h
mutual
noncomputable def eI:Tr->Tr->Bool
 | .int a,.int b=>decide (a<b)
 | .int _,_=>true
 | .str a,.str b=>decide (a.cps.toList<b.cps.toList)
 | .str _,.tup _=>true
 | .str _,.int _=>false
 | .tup a,.tup b=>fm a b
 | .tup _,_=>false
noncomputable def fm:List Tr->List Tr->Bool
 | [],[]=>false
 | [],_::_=>true
 | _::_,[]=>false
 | a::r,b::q=>if eqT a b=true then fm r q else eI a b
end
mutual
theorem JF:∀(a:Tr),eI a a=false
 | .int a=>by simp [eI]
 | .str a=>by simp [eI]
 | .tup a=>by simp only [eI];exact E6 a
theorem E6:∀(a:List Tr),fm a a=false
 | []=>by simp [fm]
 | a::r=>by
  simp only [fm,mH,if_true]
  exact E6 r
end
theorem Qu {a b:Str} (h:a≠b):a.cps.toList<b.cps.toList\/b.cps.toList<a.cps.toList:=by
 by_cases h1:a.cps.toList<b.cps.toList
 ·exact .inl h1
 ·by_cases h2:b.cps.toList<a.cps.toList
  ·exact .inr h2
  ·have e:=List.le_antisymm (List.not_lt.mp h2) (List.not_lt.mp h1)
   exact absurd (by cases a;cases b;simpa using e) h
mutual
theorem Cf:∀(a b:Tr),a≠b->eI a b=true\/eI b a=true
 | .int a,.int b,h=>by
  have h':a≠b:=fun e=>h (by rw [e])
  simp only [eI,decide_eq_true_eq]
  omega
 | .int a,.str b,h=>by simp [eI]
 | .int a,.tup b,h=>by simp [eI]
 | .str a,.int b,h=>by simp [eI]
 | .str a,.str b,h=>by
  have h':a≠b:=fun e=>h (by rw [e])
  simp only [eI,decide_eq_true_eq]
  exact Qu h'
 | .str a,.tup b,h=>by simp [eI]
 | .tup a,.int b,h=>by simp [eI]
 | .tup a,.str b,h=>by simp [eI]
 | .tup a,.tup b,h=>by
  simp only [eI]
  exact E7 a b fun e=>h (by rw [e])
theorem E7:∀(a b:List Tr),a≠b->fm a b=true\/fm b a=true
 | [],[],h=>absurd rfl h
 | [],b::q,h=>by simp [fm]
 | a::r,[],h=>by simp [fm]
 | a::r,b::q,h=>by
  simp only [fm]
  by_cases e:a=b
  ·subst e
   simp only [mH,if_true]
   exact E7 r q fun z=>h (by rw [z])
  ·rw [pJ e,pJ (aea e)]
   simp only [abQ,if_false]
   exact Cf a b e
end
mutual
theorem sx:∀(a b c:Tr),eI a b=true->eI b c=true->eI a c=true
 | .int a,.int b,.int c,h1,h2=>by simp only [eI,decide_eq_true_eq] at *;omega
 | .int a,_,.str c,h1,h2=>by simp [eI]
 | .int a,_,.tup c,h1,h2=>by simp [eI]
 | .int a,.str b,.int c,h1,h2=>by simp [eI] at h2
 | .int a,.tup b,.int c,h1,h2=>by simp [eI] at h2
 | .str a,.int b,c,h1,h2=>by simp [eI] at h1
 | .str a,.str b,.int c,h1,h2=>by simp [eI] at h2
 | .str a,.str b,.str c,h1,h2=>by simp only [eI,decide_eq_true_eq] at *;exact List.lt_trans h1 h2
 | .str a,.str b,.tup c,h1,h2=>by simp [eI]
 | .str a,.tup b,.int c,h1,h2=>by simp [eI] at h2
 | .str a,.tup b,.str c,h1,h2=>by simp [eI] at h2
 | .str a,.tup b,.tup c,h1,h2=>by simp [eI]
 | .tup a,.int b,c,h1,h2=>by simp [eI] at h1
 | .tup a,.str b,c,h1,h2=>by simp [eI] at h1
 | .tup a,.tup b,.int c,h1,h2=>by simp [eI] at h2
 | .tup a,.tup b,.str c,h1,h2=>by simp [eI] at h2
 | .tup a,.tup b,.tup c,h1,h2=>by
  simp only [eI] at *
  exact wG a b c h1 h2
theorem wG:∀(a b c:List Tr),fm a b=true->fm b c=true->fm a c=true
 | [],[],_,h1,_=>by simp [fm] at h1
 | [],_::_,[],_,h2=>by simp [fm] at h2
 | [],_::_,_::_,_,_=>by simp [fm]
 | _::_,[],_,h1,_=>by simp [fm] at h1
 | _::_,_::_,[],_,h2=>by simp [fm] at h2
 | a::r,b::q,c::t,h1,h2=>by
  simp only [fm] at h1 h2 ⊢
  by_cases F:a=b
  ·subst F
   simp only [mH,if_true] at h1
   by_cases B:a=c
   ·subst B
    simp only [mH,if_true] at h2 ⊢
    exact wG r q t h1 h2
   ·rw [pJ B] at h2 ⊢
    exact h2
  ·rw [pJ F] at h1
   simp only [abQ,if_false] at h1
   by_cases B:b=c
   ·subst B
    rw [pJ F]
    exact h1
   ·rw [pJ B] at h2
    simp only [abQ,if_false] at h2
    have G:=sx a b c h1 h2
    have J:a≠c:=fun z=>by
     subst z
     have:=JF a
     rw [G] at this
     cases this
    rw [pJ J]
    exact G
end
theorem Hg (f:Nat->Tr):WO (fun i j=>eI (f i) (f j)):=by
 have Cd:∀a b,eI a b=true->eI b a=false:=fun a b h=>by
  cases e:eI b a with
  | false=>rfl
  | true=>have z:=sx a b a h e;rw [JF] at z;cases z
 refine⟨fun a b h=>Cd _ _ h,fun a b c h1 h2=>?_⟩
 cases e:eI (f c) (f a) with
 | false=>rfl
 | true =>
  by_cases B:f a=f b
  ·rw [B] at e;rw [e] at h2;cases h2
  ·rcases Cf _ _ B with q|q
   ·rw [sx _ _ _ e q] at h2;cases h2
   ·rw [q] at h1;cases h1
theorem Hh {a b:List Tr} (p:a.Perm b) (ha:a.Pairwise fun x y=>eI y x=false) (z:b.Pairwise fun x y=>eI y x=false):a=b :=
 List.Perm.eq_of_pairwise (fun x y _ _ h1 h2=>by
  by_cases e:x=y
  ·exact e
  ·rcases Cf _ _ e with q|q
   ·rw [q] at h2;cases h2
   ·rw [q] at h1;cases h1) ha z p
def E8 (A:abP) (s:aah) (u v:aae) (b:Bool):Prop :=
 ∀(prog:abn) (w:abU) (E:aae->aah->Prop) (Q:aae->aah->Prop),Q (.bool b) s->aby (model prog w) A (richCompare .Lt u v) Q E s
inductive Pn (A:abP) (s:aah):List aae->List aae->Bool->Prop
 | nn:Pn A s [] [] false
 | nc {w:aae} {ws:List aae}:Pn A s [] (w::ws) true
 | cn {v:aae} {vs:List aae}:Pn A s (v::vs) [] false
 | eq {v w:aae} {vs ws:List aae} {r:Bool} (e:adS A s v w true) (h:Pn A s vs ws r):Pn A s (v::vs) (w::ws) r
 | ne {v w:aae} {vs ws:List aae} {r:Bool} (e:adS A s v w false) (h:E8 A s v w r):Pn A s (v::vs) (w::ws) r
section
open PySem.SeqAt
open PySem.AutoSeq1 (wpAny_loadPart')
open PySem.MeetsSeq PySem.MeetsSeq2 PySem.MeetsSeq3
theorem Cg (l b:aay) (items ky:Array aae) (n n2:Nat) (dd RY:Option aay) (sl Jc:Array (Option aae)) (r:Bool) :
  Meets (Builtin.«tuple.__lt__» ⟨[.ref l,.ref b],[]⟩)
   (fun A R s=>s.heap.get? l=some { cls:=.type "tuple",dict:=dd,data:=.seq items n,slots:=sl }/\s.heap.get? b=some { cls:=.type "tuple",dict:=RY,data:=.seq ky n2,slots:=Jc } /\
    Pn A.in1 s items.toList ky.toList r/\R (.ok (.ret (.bool r))) s) :=
 .of_wp fun prog w A R s h=>by
  obtain⟨L,g,d,tk,os⟩:=s;obtain⟨hl,O,hd,h⟩:=h
  have Z:=agZ
  wp_walk using wpAny_loadPart' hl,wpAny_loadPart' O,wpAny_forIn_list _ (fun a9 b s'=>b.1=none/\s'=⟨L,g,d,tk,os⟩/\∃(vs ws:List aae),a9=vs.zip ws /\
   Pn A.in1 ⟨L,g,d,tk,os⟩ vs ws r/\vs.length+ky.size=ws.length+items.size) _
  case turn =>
   rintro⟨y,x⟩ a9 b s' ⟨q,rfl,vs,ws,hz,z,hlen⟩
   cases z with
   | nn=>cases hz
   | nc=>cases hz
   | cn=>rw [List.zip_nil_right] at hz;cases hz
   | @eq v Y vs' ws' _ e hr =>
    rw [adL] at hz
    injection hz with B hrest
    injection B with J G
    subst J G
    simp only [aal] at hlen
    refine aac (e prog w _ _ ?_)
    wp_walk
    exact⟨rfl,rfl,_,_,hrest,hr,by omega⟩
   | @ne v Y vs' ws' _ e hr =>
    rw [adL] at hz
    injection hz with B hrest
    injection B with J G
    subst J G
    refine aac (e prog w _ _ ?_)
    have F:=hr prog w
    wp_walk using F
    exact⟨_,rfl,by simpa using h⟩
  case fin =>
   rintro⟨b1,b2⟩ s' ⟨q,rfl,vs,ws,hz,z,hlen⟩
   simp only at q
   subst q
   have V:r=decide (items.size<ky.size):=by
    cases z with
    | nn=>simp only [abN] at hlen;exact(decide_eq_false (by omega)).symm
    | nc=>simp only [abN,aal] at hlen;exact(decide_eq_true (by omega)).symm
    | cn=>simp only [abN,aal] at hlen;exact(decide_eq_false (by omega)).symm
    | eq e hr=>rw [adL] at hz;cases hz
    | ne e hr=>rw [adL] at hz;cases hz
   rw [V] at h
   wp_walk
   exact⟨_,rfl,by simpa [Builtin.Tuple.tupleCompareSizes] using h⟩
  case h =>
   exact⟨rfl,rfl,items.toList,ky.toList,rfl,hd,by simp;omega⟩
end
theorem Hi {A:abP} {s:aah} {l b:aay} {items ky:Array aae} {r:Bool} (hl:IsTup s.heap l items) (F:IsTup s.heap b ky) (G:A.units<cLine) (hd:Pn A.in1 s items.toList ky.toList r):E8 A s (.ref l) (.ref b) r:=by
 intro prog w E Q h
 obtain⟨⟨cls,dd,data,sl⟩,B,z,n,Zr⟩:=id hl
 obtain⟨⟨Wg,RY,data2,Jc⟩,Ko,Pk,n2,q⟩:=id F
 simp only at z Zr Pk q
 subst z Zr Pk q
 exact richCompare_meets_room (op:=.Lt) ⟨_,B,rfl⟩ ⟨_,Ko,rfl⟩ PySem.F.slot_tuple_lt PySem.F.entry_tuple_lt (PySem.F.args_tuple_lt_2 _ _) (Cg l b items ky n n2 dd RY sl Jc r)
  ⟨B,Ko,hd,show ae2 r≠Value.notImplemented/\Q (.bool r) s from⟨(fun x=>nomatch x),h⟩⟩ G
mutual
noncomputable def zu:Tr->Tr->Bool
 | .int _,.int _=>true
 | .str _,.str _=>true
 | .tup a,.tup b=>sy a b
 | _,_=>false
noncomputable def sy:List Tr->List Tr->Bool
 | a::r,b::q=>zu a b && sy r q
 | _,_=>true
end
theorem NY {A:abP} {s:aah}:∀(a b:List Tr) (vs ws:List aae),vs.length=a.length->ws.length=b.length->sy a b=true ->
  (∀j (h1:j<a.length) (h2:j<b.length) (L:j<vs.length) (O:j<ws.length),adS A s vs[j] ws[j] (eqT a[j] b[j])/\(zu a[j] b[j]=true->E8 A s vs[j] ws[j] (eI a[j] b[j])))->Pn A s vs ws (fm a b)
 | [],[],[],[],_,_,_,_=>by simp only [fm];exact .nn
 | [],b::q,[],w::ws,_,_,_,_=>by simp only [fm];exact .nc
 | a::r,[],v::vs,[],_,_,_,_=>by simp only [fm];exact .cn
 | a::r,b::q,v::vs,w::ws,l1,l2,hs,h=>by
  simp only [sy,abg] at hs
  obtain⟨h0,z⟩:=h 0 (by simp) (by simp) (by simp) (by simp)
  have h0:adS A s v w (eqT a b):=h0
  have z:zu a b=true->E8 A s v w (eI a b):=z
  simp only [fm]
  cases e:eqT a b with
  | true =>
   rw [e] at h0
   simp only [if_true]
   exact .eq h0 (NY r q vs ws (by simpa using l1) (by simpa using l2) hs.2 fun j B F G J=>h (j+1) (by simpa using B) (by simpa using F) (by simpa using G) (by simpa using J))
  | false =>
   rw [e] at h0
   simp only [abQ,if_false]
   exact .ne h0 (z hs.1)
 | [],[],_::_,_,l,_,_,_=>by simp at l
 | [],[],[],_::_,_,l,_,_=>by simp at l
 | [],_::_,_::_,_,l,_,_,_=>by simp at l
 | [],_::_,[],[],_,l,_,_=>by simp at l
 | _::_,_,[],_,l,_,_,_=>by simp at l
 | _::_,[],_::_,_::_,_,l,_,_=>by simp at l
 | _::_,_::_,_::_,[],_,l,_,_=>by simp at l
theorem Ua {K:aaa} {H:Hp} {X:Cx} {pins:List (aay × Obj)} {σ:St} {s:aah} (I:Inv X pins σ H s) (hK:X.K=K) :
  ∀(n:Nat) (A:abP) {a b:Tr} {x y:V} {u v:aae},a.toD.deep<=n->A.units+n+20<cLine->zu a b=true->jm K H a.toD x->jm K H b.toD y->RelV x u->RelV y v->E8 A s u v (eI a b):=by
 subst hK
 intro n
 induction n with
 | zero =>
  intro A a b x y u v hd hu hs h1 h2 ru rv
  cases a with
  | int i =>
   cases b with
   | int j =>
    simp only [Tr.toD] at h1 h2
    cases h1;cases h2
    obtain⟨t,rfl⟩:=ru
    obtain⟨t',rfl⟩:=rv
    simp only [eI]
    exact fun prog w E Q h=>(PyProof.Rows.lt_int h:aby (model prog w) A (compareOp .Lt _ _) Q E s)
   | str j=>simp [zu] at hs
   | tup j=>simp [zu] at hs
  | str i =>
   cases b with
   | int j=>simp [zu] at hs
   | str j =>
    simp only [Tr.toD] at h1 h2
    cases h1;cases h2
    obtain⟨t,rfl⟩:=ru
    obtain⟨t',rfl⟩:=rv
    simp only [eI]
    exact fun prog w E Q h=>(PyProof.Rows.lt_str h:aby (model prog w) A (compareOp .Lt _ _) Q E s)
   | tup j=>simp [zu] at hs
  | tup i=>simp only [Tr.toD,Dt.deep] at hd;omega
 | succ n ih =>
  intro A a b x y u v hd hu hs h1 h2 ru rv
  cases a with
  | int i=>exact ih A (by simp [Tr.toD,Dt.deep]) (by omega) hs h1 h2 ru rv
  | str i=>exact ih A (by simp [Tr.toD,Dt.deep]) (by omega) hs h1 h2 ru rv
  | tup i =>
   cases b with
   | int j=>simp [zu] at hs
   | str j=>simp [zu] at hs
   | tup j =>
    simp only [Tr.toD] at h1 h2 hd
    simp only [zu] at hs
    cases h1 with
    | @tup ds xs p h l r =>
     cases h2 with
     | @tup es ys q h' l' r' =>
      cases ru;cases rv
      obtain⟨its,J,p1,_⟩:=I.tuple h
      obtain⟨dF,r2,p2,_⟩:=I.tuple h'
      have G1:=J.length
      have Wr:=r2.length
      simp only [eI]
      have k1:=toDs_length i
      have k2:=toDs_length j
      refine Hi p1 p2 (by omega) ?_
      rw [aeY,aeY]
      refine NY i j its dF (by omega) (by omega) hs fun c G L c3 c4=>?_
      have B:=r c (by omega) (by omega)
      have F:=r' c (by omega) (by omega)
      rw [toDs_get i c G] at B
      rw [toDs_get j c L] at F
      obtain⟨u1,O,q1⟩:=J.get (i:=c) (x:=xs[c]'(by omega)) (by simp)
      obtain⟨u2,Y,q2⟩:=r2.get (i:=c) (x:=ys[c]'(by omega)) (by simp)
      have Z:its[c]=u1:=(aaf.mp O).2
      have g2:dF[c]=u2:=(aaf.mp Y).2
      rw [Z,g2]
      have z:=jM (ds:=Tr.toDs i) (i:=c) (by omega)
      rw [toDs_get i c G] at z
      have a1:Dt.gI (Tr.toDs i)+1<=n+1:=hd
      exact⟨vW I rfl n A.in1 (by omega) (by show A.units+1+n<cLine;omega) B F q1 q2,fun Tn=>ih A.in1 (by omega) (by show A.units+1+n+20<cLine;omega) Tn B F q1 q2⟩
section
variable {prog:abn} {w:abU} {A:abP} {E:aae->aah->Prop} {s:aah} {Q:Bool->aah->Prop}
theorem uq:∀(a b:List Tr) (vs ws:List aae) (i:Nat),0<i->vs.length=a.length->ws.length=b.length->sy a b=true ->
  (∀j (h1:j<a.length) (h2:j<b.length) (Z:j<vs.length) (h4:j<ws.length),adS A s vs[j] ws[j] (eqT a[j] b[j])/\(zu a[j] b[j]=true->E8 A s vs[j] ws[j] (eI a[j] b[j]))) ->
  ∀fin,fin=decide (vs.length<ws.length)->Q (fm a b) s->KatLex prog w A true fin Q (vs.zip ws) i s
 | [],[],[],[],i,_,_,_,_,_,fin,z,h=>by simp only [fm] at h;simp at z;subst z;exact kat_nil h
 | [],b::q,[],F::ws,i,_,_,_,_,_,fin,z,h=>by simp only [fm] at h;simp at z;subst z;exact kat_nil h
 | a::r,[],v::vs,[],i,_,_,_,_,_,fin,z,h=>by simp only [fm] at h;simp at z;subst z;exact kat_nil h
 | a::r,b::q,v::vs,F::ws,i,hi,l1,l2,hs,G,fin,z,h=>by
  simp only [sy,abg] at hs
  obtain⟨h0,B⟩:=G 0 (by simp) (by simp) (by simp) (by simp)
  have h0:adS A s v F (eqT a b):=h0
  have B:zu a b=true->E8 A s v F (eI a b):=B
  simp only [fm] at h
  rw [adL]
  refine kat_cons (h0 prog w _ _ ?_)
  cases e:eqT a b with
  | true =>
   rw [e] at h
   simp only [if_true] at h
   exact kat_yes (uq r q vs ws (i+1) (by omega) (by simpa using l1) (by simpa using l2) hs.2 (fun j J L O V=>G (j+1) (by simpa using J) (by simpa using L) (by simpa using O) (by simpa using V)) fin (by simpa using z) h)
  | false =>
   rw [e] at h
   simp only [abQ,if_false] at h
   refine kat_no ?_
   have Y:(true && i == 0)=false:=by
    simp only [aeB,beq_eq_false_iff_ne]
    omega
   rw [Y]
   exact kat_one _ _ (B hs.1 prog w _ _ h)
 | [],[],_::_,_,_,_,l,_,_,_,_,_,_=>by simp at l
 | [],[],[],_::_,_,_,_,l,_,_,_,_,_=>by simp at l
 | [],_::_,_::_,_,_,_,l,_,_,_,_,_,_=>by simp at l
 | [],_::_,[],[],_,_,_,l,_,_,_,_,_=>by simp at l
 | _::_,_,[],_,_,_,l,_,_,_,_,_,_=>by simp at l
 | _::_,[],_::_,_::_,_,_,_,l,_,_,_,_,_=>by simp at l
 | _::_,_::_,_::_,[],_,_,_,l,_,_,_,_,_=>by simp at l
theorem Hj {a b:Tr} {r q:List Tr} {v z:aae} {vs ws:List aae} (l1:vs.length=r.length) (l2:ws.length=q.length) (hs:sy (a::r) (b::q)=true)
  (h1:(∃x y t u,a=.str x/\b=.str y/\v=.str x t/\z=.str y u)\/(∃x y t u,a=.int x/\b=.int y/\v=.int x t/\z=.int y u)) (h0:adS A s v z (eqT a b))
  (F:∀j (h1:j<r.length) (h2:j<q.length) (G:j<vs.length) (J:j<ws.length),adS A s vs[j] ws[j] (eqT r[j] q[j])/\(zu r[j] q[j]=true->E8 A s vs[j] ws[j] (eI r[j] q[j])))
  {fin:Bool} (B:fin=decide (vs.length<ws.length)) (h:Q (fm (a::r) (b::q)) s):KatLex prog w A true fin Q ((v::vs).zip (z::ws)) 0 s:=by
 simp only [sy,abg] at hs
 simp only [fm] at h
 rw [adL]
 refine kat_cons (h0 prog w _ _ ?_)
 cases e:eqT a b with
 | true =>
  rw [e] at h
  simp only [if_true] at h
  exact kat_yes (uq r q vs ws 1 (by omega) l1 l2 hs.2 F fin B h)
 | false =>
  rw [e] at h
  simp only [abQ,if_false] at h
  refine kat_no ?_
  show aby (model prog w) A (oneLt' true v z) Q _ s
  rcases h1 with⟨x,y,t,u,rfl,rfl,rfl,rfl⟩|⟨x,y,t,u,rfl,rfl,rfl,rfl⟩
  ·simp only [eI] at h
   exact oneLt_str h
  ·simp only [eI] at h
   exact oneLt_int h
end
noncomputable def Ef:Tr->Nat
 | .tup (.str _::_)=>1
 | .tup (.int _::_)=>2
 | _=>0
theorem WU {t:Tr} (h:Ef t=1):∃x r,t=.tup (.str x::r):=by
 match t,h with
 | .tup (.str x::r),_=>exact⟨x,r,rfl⟩
 | .tup (.int _::_),h=>simp [Ef] at h
 | .tup (.tup _::_),h=>simp [Ef] at h
 | .tup [],h=>simp [Ef] at h
 | .int _,h=>simp [Ef] at h
 | .str _,h=>simp [Ef] at h
theorem WV {t:Tr} (h:Ef t=2):∃x r,t=.tup (.int x::r):=by
 match t,h with
 | .tup (.str x::r),h=>simp [Ef] at h
 | .tup (.int x::r),_=>exact⟨x,r,rfl⟩
 | .tup (.tup _::_),h=>simp [Ef] at h
 | .tup [],h=>simp [Ef] at h
 | .int _,h=>simp [Ef] at h
 | .str _,h=>simp [Ef] at h
def Ts (K:aaa) (H:Hp) (ts:List Tr) (ys:List V):Prop:=ts.length=ys.length/\∀(i:Nat) (h1:i<ts.length) (h2:i<ys.length),jm K H (ts[i]).toD ys[i]
noncomputable def E9 (ts:List Tr):List Tr:=ts.mergeSort fun x y=>!eI y x
theorem KI (a b:Tr):((!eI b a) || (!eI a b))=true:=by
 cases h:eI b a with
 | false=>rfl
 | true =>
  have z:eI a b=false:=(Hg fun i=>if i=0 then b else a).Cd 0 1 h
  rw [z];rfl
theorem A9 (ts:List Tr):(E9 ts).Perm ts:=List.mergeSort_perm _ _
theorem Fb (ts:List Tr):(E9 ts).Pairwise fun x y=>eI y x=false:=by
 have h:=List.pairwise_mergeSort (le:=fun x y=>!eI y x) (fun a b c h1 h2=>by
  simp only [Bool.not_eq_true'] at *
  exact(Hg fun i=>if i=0 then a else if i=1 then b else c).tr 0 1 2 h1 h2) KI ts
 exact h.imp fun z=>by simpa using z
theorem Qv {ts ts':List Tr} (p:ts'.Perm ts) (h:ts'.Pairwise fun x y=>eI y x=false):ts'=E9 ts:=Hh (p.trans (A9 ts).symm) h (Fb ts)
def Ub (K:aaa):List V->Hp->VK->Prop:=fun xs H Q=>∃a ys ts k,xs=[.ref a]/\aC K H a ys/\Ts K H ts ys/\ys.length<64/\(k=1\/k=2)/\(∀t∈ts,Ef t=k/\t.toD.deep<=18)/\(∀t∈ts,∀u∈ts,zu t u=true) /\
 ∀p Tv,H p=none->Ts K H (E9 ts) Tv->Q (.ref p) (upd H p (.lst Tv))
theorem wH {h:Heap}:∀{vs fs:List aae},vs.length=fs.length->(∀i (h1:i<vs.length) (h2:i<fs.length),∃a o xs n,vs[i]=.ref a/\h.get? a=some o/\o.cls=.type "tuple"/\o.data=.seq xs n/\xs[0]?=some fs[i])->KatTups h vs fs
 | [],[],_,_=>.nil
 | [],_::_,l,_=>by simp at l
 | _::_,[],l,_=>by simp at l
 | v::vs,f::fs,l,z=>by
  obtain⟨a,o,xs,n,e,B,F,G,q⟩:=z 0 (by simp) (by simp)
  have e:v=.ref a:=e
  have q:xs[0]?=some f:=q
  subst e
  exact .cons B F G q (wH (by simpa using l) fun i h1 h2=>z (i+1) (by simpa using h1) (by simpa using h2))
theorem Fd {ys:List V} {its:List aae} (r:Vals ys its):∀(p:List Nat),Vals (p.map fun i=>ys.getD i .cg) (p.map fun i=>its.getD i ack)
 | []=>.nil
 | i::p=>by
  refine .cons ?_ (Fd r p)
  cases e:ys[i]? with
  | none =>
   have z:=r.none_of e
   simp only [Gd9,e,z,ahi]
   rfl
  | some x =>
   obtain⟨u,z,q⟩:=r.get e
   simp only [Gd9,e,z,adI]
   exact q
section
variable {X:Cx}
theorem wI {k:Nat} (hk:k=1\/k=2) {t:Tr} (q:Ef t=k):∃a r,t=.tup (a::r)/\((k=1/\∃x,a=.str x)\/(k=2/\∃x,a=.int x)):=by
 rcases hk with rfl|rfl
 ·obtain⟨x,r,rfl⟩:=WU q
  exact⟨_,r,rfl,.inl ⟨rfl,x,rfl⟩⟩
 ·obtain⟨x,r,rfl⟩:=WV q
  exact⟨_,r,rfl,.inr ⟨rfl,x,rfl⟩⟩
theorem wJ {pins:List (aay × Obj)} {σ:St} {H:Hp} {s:aah} (I:Inv X pins σ H s) {a:Tr} {r:List Tr} {x:V} {vx:aae} (h:jm X.K H (Tr.tup (a::r)).toD x) (rx:RelV x vx) :
  ∃(p:aay) (y:V) (ys:List V) (v:aae) (vs:List aae),vx=.ref p/\IsTup s.heap p (v::vs).toArray/\jm X.K H a.toD y/\RelV y v/\ys.length=r.length/\vs.length=r.length/\Vals ys vs/\∀j (h1:j<r.length) (h2:j<ys.length),jm X.K H (r[j]).toD ys[j]:=by
 simp only [Tr.toD,Tr.toDs] at h
 cases h with
 | @tup ds xs p g l rr =>
  cases rx
  obtain⟨its,q,p1,_⟩:=I.tuple g
  have kl:=toDs_length r
  match xs,its,l,q,p1,rr with
  | y::ys,v::vs,l,.cons q1 q2,p1,rr =>
   have hl:ys.length=r.length:=by simp only [aal] at l;omega
   refine⟨p,y,ys,v,vs,rfl,p1,rr 0 (by simp) (by simp),q1,hl,by rw [<- q2.length];exact hl,q2,fun j h1 h2=>?_⟩
   have z:=rr (j+1) (by simp only [aal];omega) (by simp only [aal];omega)
   simp only [ahn] at z
   rw [toDs_get r j h1] at z
   exact z
  | [],_,l,_,_,_=>simp at l
theorem Qw {pins:List (aay × Obj)} {σ:St} {H:Hp} {s:aah} (I:Inv X pins σ H s) {A:abP} (hA:A.units+45<cLine) {k:Nat} (hk:k=1\/k=2) {t u:Tr} {x y:V} {vx vy:aae} (ht:Ef t=k) (hu:Ef u=k) (dt:t.toD.deep<=18) (hs:zu t u=true)
  (h1:jm X.K H t.toD x) (h2:jm X.K H u.toD y) (rx:RelV x vx) (ry:RelV y vy) {prog:abn} {w:abU} {C:Bool->aah->Prop} {E:aae->aah->Prop} (hC:C (eI t u) s):aby (model prog w) A (keyLt' (tuples' true) vx vy) C E s:=by
 obtain⟨a,r,rfl,ka⟩:=wI hk ht
 obtain⟨b,q,rfl,kb⟩:=wI hk hu
 obtain⟨p1,y1,Zs,v1,vs1,rfl,G,B,O,l1,m1,w1,g1⟩:=wJ I h1 rx
 obtain⟨p2,y2,Zt,v2,vs2,rfl,J,F,Y,l2,m2,w2,g2⟩:=wJ I h2 ry
 obtain⟨o1,Vq,_,n1,Z⟩:=G
 obtain⟨o2,Ko,_,n2,a1⟩:=J
 simp only [zu] at hs
 simp only [eI] at hC
 have Zr:a.toD.deep<=17/\Dt.gI (Tr.toDs r)<=17:=by
  simp only [Tr.toD,Tr.toDs,Dt.deep,Dt.gI] at dt
  omega
 refine kat_lt Vq Z Ko a1 ?_
 rw [aeY,aeY]
 refine Hj (a:=a) (b:=b) (r:=r) (q:=q) m1 m2 hs ?_ (vW I rfl 17 A Zr.1 (by omega) B F O Y) (fun j L c2 c3 c4=>?_) (by simp) hC
 ·rcases ka with⟨rfl,x0,rfl⟩|⟨rfl,x0,rfl⟩
  ·rcases kb with⟨_,y0,rfl⟩|⟨z,_⟩
   ·simp only [Tr.toD] at B F
    cases B;cases F
    obtain⟨G,rfl⟩:=O
    obtain⟨J,rfl⟩:=Y
    exact .inl ⟨x0,y0,G,J,rfl,rfl,rfl,rfl⟩
   ·cases z
  ·rcases kb with⟨z,_⟩|⟨_,y0,rfl⟩
   ·cases z
   ·simp only [Tr.toD] at B F
    cases B;cases F
    obtain⟨G,rfl⟩:=O
    obtain⟨J,rfl⟩:=Y
    exact .inr ⟨x0,y0,G,J,rfl,rfl,rfl,rfl⟩
 ·obtain⟨u1,f1,q1⟩:=w1.get (i:=j) (x:=Zs[j]'(by omega)) (by simp)
  obtain⟨u2,f2,q2⟩:=w2.get (i:=j) (x:=Zt[j]'(by omega)) (by simp)
  have z1:vs1[j]=u1:=(aaf.mp f1).2
  have z2:vs2[j]=u2:=(aaf.mp f2).2
  rw [z1,z2]
  have zz:=jM (ds:=Tr.toDs r) (i:=j) (by rw [toDs_length];exact L)
  rw [toDs_get r j L] at zz
  exact⟨vW I rfl 17 A (by omega) (by omega) (g1 j L (by omega)) (g2 j c2 (by omega)) q1 q2,fun Tn=>Ua I rfl 17 A (by omega) (by omega) Tn (g1 j L (by omega)) (g2 j c2 (by omega)) q1 q2⟩
theorem kz (hu:X.A.units+64<cLine):fD X (.builtin "sorted") (Ub X.K):=by
 intro pins s σ H xs us Q I rx h
 obtain⟨a,ys,ts,k,rfl,hq,⟨hl,Z⟩,Zq,hk,hd,Tn,q⟩:=h
 obtain⟨u,rfl,ru⟩:=vals1 rx
 cases ru
 obtain⟨its,r,pl,hz⟩:=I.list hq
 have hlen:=r.length
 have at_:∀i (hi:i<its.length),∃u,its[i]=u/\RelV (ys[i]'(by omega)) u:=fun i hi=>by
  obtain⟨u1,f1,q1⟩:=r.get (i:=i) (x:=ys[i]'(by omega)) (by simp)
  exact⟨u1,(aaf.mp f1).2,q1⟩
 refine Hf (κ:=tuples' true) (lt:=fun i j=>eI (ts.getD i (.int 0)) (ts.getD j (.int 0))) (Hg _) pl.isList (by omega) (fun h2 h' kp Q' hQ=>?_) (fun h' kp i j C hi hj Y=>?_) fun p D h' c hp hr kp hD e=>?_
 ·have I':Inv X pins σ H { s with heap:=h' }:=I.kept (t':=s.toks) kp
  have G:∀i:_root_.Fin its.length,∃f:aae,(∃a o xs n,its[i.1]=.ref a/\h'.get? a=some o/\o.cls=.type "tuple"/\o.data=.seq xs n/\xs[0]?=some f)/\((k=1->typeOf f=pure (.type "str"))/\(k=2->typeOf f=pure (.type "int"))):=fun⟨i,hi⟩=>by
   obtain⟨u,eu,ru⟩:=at_ i hi
   have hm:=(hd _ (aan (show i<ts.length by omega))).1
   obtain⟨c,cs,ec,kc⟩:=wI hk hm
   have Sd:=Z i (by omega) (by omega)
   rw [ec] at Sd
   obtain⟨p1,y1,Zs,v1,vs1,e1,⟨o1,Vq,a1,n1,a2⟩,V,rv,_⟩:=wJ I' Sd ru
   refine⟨v1,⟨p1,o1,_,n1,by show its[i]=_;rw [eu,e1],Vq,a1,a2,by simp⟩,?_⟩
   rcases kc with⟨rfl,x,rfl⟩|⟨rfl,x,rfl⟩
   ·simp only [Tr.toD] at V
    cases V
    obtain⟨t1,rfl⟩:=rv
    exact⟨fun _=>rfl,fun z=>by cases z⟩
   ·simp only [Tr.toD] at V
    cases V
    obtain⟨t1,rfl⟩:=rv
    exact⟨(fun z=>by cases z),fun _=>rfl⟩
  obtain⟨f,G⟩:=Classical.skolem.mp G
  have kt:KatTups h' its (List.ofFn f):=wH (by simp) fun i h1 h2=>by
   rw [List.getElem_ofFn]
   exact(G ⟨i,h1⟩).1
  rcases hk with rfl|rfl
  ·refine kat_kind (s:={ s with heap:=h' }) (T:=.type "str") kt (by simp;omega) (fun v O=>?_) (by decide) ?_
   ·obtain⟨i,rfl⟩:=(List.mem_ofFn (f:=f) (a:=v)).mp O
    exact Looks.of_pure ((G i).2.1 rfl)
   ·exact hQ
  ·refine kat_kind (s:={ s with heap:=h' }) (T:=.type "int") kt (by simp;omega) (fun v O=>?_) (by decide) ?_
   ·obtain⟨i,rfl⟩:=(List.mem_ofFn (f:=f) (a:=v)).mp O
    exact Looks.of_pure ((G i).2.2 rfl)
   ·exact hQ
 ·have I':Inv X pins σ H { s with heap:=h' }:=I.kept (t':=s.toks) kp
  obtain⟨u1,eu1,ru1⟩:=at_ i hi
  obtain⟨u2,WG,ru2⟩:=at_ j hj
  have B:its.getD i ack=u1:=by rw [<- eu1];simp [hi]
  have F:its.getD j ack=u2:=by rw [<- WG];simp [hj]
  have i1:i<ts.length:=by omega
  have j1:j<ts.length:=by omega
  have t1:ts.getD i (.int 0)=ts[i]:=by simp [i1]
  have t2:ts.getD j (.int 0)=ts[j]:=by simp [j1]
  rw [B,F]
  have Y:C (eI (ts.getD i (.int 0)) (ts.getD j (.int 0))) _:=Y
  rw [t1,t2] at Y
  exact Qw I' (A:=X.A.in1.in1) (by show X.A.units+1+1+45<cLine;omega) hk (hd _ (aan i1)).1 (hd _ (aan j1)).1 (hd _ (aan i1)).2 (Tn _ (aan i1) _ (aan j1)) (Z i i1 (by omega)) (Z j j1 (by omega)) ru1 ru2 Y
 ·have L:p.toList.Perm (acr its.length):=hp.2
  have e1:(acr its.length).map (fun i=>ts.getD i (.int 0))=ts:=by
   apply agr (by simp;omega)
   intro i a1 a2
   simp [a2]
  have Fe:p.toList.map (fun i=>ts.getD i (.int 0))=E9 ts:=by
   refine Qv ?_ ?_
   ·have z:=L.map (fun i=>ts.getD i (.int 0))
    rw [e1] at z
    exact z
   ·rw [agj,List.pairwise_iff_getElem]
    intro i j hi hj Ji
    have a3:i<p.size:=by simpa using hi
    have J:j<p.size:=by simpa using hj
    have z:=hr i j Ji (by rw [<- hp.1];exact J)
    have B:p.getD i 0=p.toList[i]:=by simp [Array.getD,a3]
    have F:p.getD j 0=p.toList[j]:=by simp [Array.getD,J]
    rw [B,F] at z
    exact z
  have O:=Fd r p.toList
  refine⟨.ref D,upd H D (.lst (p.toList.map fun i=>ys.getD i .cg)),I.laid (t':=s.toks) kp hD ⟨?_,_,c,O,e⟩,rfl,q D _ (I.hok.fresh hD) ?_⟩
  ·rw [Lm9,adF,hp.1];omega
  ·rw [<- Fe]
   refine⟨by simp,fun i h1 h2=>?_⟩
   rw [aaO,aaO]
   have hi:i<p.toList.length:=by simpa using h1
   have hb:p.toList[i]<its.length:=acy.mp (L.mem_iff.mp (aan hi))
   have b1:p.toList[i]<ts.length:=by omega
   have b2:p.toList[i]<ys.length:=by omega
   have B:ts.getD p.toList[i] (.int 0)=ts[p.toList[i]]:=by rw [Gd9,Ge9 b1,adI]
   have F:ys.getD p.toList[i] .cg=ys[p.toList[i]]:=by rw [Gd9,Ge9 b2,adI]
   rw [B,F]
   exact Z _ b1 b2
end
end L2
namespace L2
open PySem PySem.Spec PyProof.Rows
section
variable {X:Cx} {pins:List (aay × Obj)} {σ:St} {H H':Hp} {s:aah}
end
section
variable {X:Cx} {o e f:Expr} {td ty tx:TE} {apos cpos:Pos}
end
end L2
namespace gc
open PySem
end gc
namespace gc
end gc
namespace gc
open PySem
section
variable {prog:abn} {w:abU} {A:abP} {E:aae->aah->Prop} {s:aah} {a:aay} {o:Obj} {es:Array (Int × aae)} {ep:Nat} {t:SetTable} {x:aae} {h:Int} {k4:Nat->Bool} {Q:SetFound->aah->Prop}
end
section
variable {prog:abn} {w:abU} {A:abP} {E:aae->aah->Prop} {s:aah} {a:aay} {es:Array (Int × aae)} {x:aae} {h:Int} {k4:Nat->Bool} {l:Bool}
end
end gc
namespace L2
open PySem PySem.Spec PyProof.Rows
theorem Ci {X:Cx} {pins:List (aay × Obj)} {σ:St} {H:Hp} {s:aah} (I:Inv X pins σ H s) {l:List Tr} {x:V} {u:aae} (h:jm X.K H (Tr.tup l).toD x) (r:RelV x u) :
  ∃(p:aay) (ys:List V) (its:List aae),u=.ref p/\IsTup s.heap p its.toArray/\Vals ys its/\Ts X.K H l ys:=by
 simp only [Tr.toD] at h
 cases h with
 | @tup ds xs p g e rr =>
  cases r
  obtain⟨its,q,p1,_⟩:=I.tuple g
  have kl:=toDs_length l
  refine⟨p,xs,its,rfl,p1,q,by omega,fun i h1 h2=>?_⟩
  have z:=rr i (by omega) h2
  rw [toDs_get l i h1] at z
  exact z
section
variable {X:Cx} {pins:List (aay × Obj)} {σ:St} {H:Hp} {s:aah}
end
section
variable {X:Cx} {pins:List (aay × Obj)} {σ:St} {H:Hp} {s:aah}
end
end L2
namespace L2
open PySem PySem.Spec PyProof.Rows gc
section
variable {X:Cx} {pins:List (aay × Obj)} {σ:St} {H:Hp} {s:aah} {a:aay} {es:Array (Int × aae)} {tr:List Tr} {t:Tr} {x:V} {u:aae} {l:Bool}
end
section
variable {X:Cx} {pins:List (aay × Obj)} {σ:St} {H:Hp} {s:aah} {a it l:aay} {ts:List Tr} {ys:List V} {its:List aae} {ld:Bool}
end
end L2
namespace PySem
section
variable {prog:abn} {w:abU} {A:abP} {E:aae->aah->Prop} {s:aah}
end
end PySem
namespace PySem.F
end PySem.F
namespace gc
open PySem
section
variable {M:Model} {A:abP} {E:aae->aah->Prop} {s:aah}
end
section
variable {prog:abn} {w:abU} {A:abP} {E:aae->aah->Prop} {s:aah} {I a T:aay} {first:aae} {i ep:Nat} {es:Array (Int × aae)} {t:SetTable} {pl:List Nat} {k9:List aae}
end
section
variable {prog:abn} {w:abU} {A:abP} {E:aae->aah->Prop} {s:aah} {a:aay} {ep:Nat} {es:Array (Int × aae)} {t:SetTable}
end
end gc
namespace gc
open PySem PySem.W PyProof.Rows
section
variable {prog:abn} {w:abU} {A:abP} {E:aae->aah->Prop} {s:aah} {a:aay} {ep:Nat} {es:Array (Int × aae)} {t:SetTable}
end
end gc
namespace L2
open PySem PySem.Spec PyProof.Rows gc
section
variable {X:Cx}
end
end L2
namespace L2
open PySem PySem.Spec PyProof.Rows
mutual
noncomputable def toP:Tr->PyData
 | .int i=>.int i
 | .str x=>.str x
 | .tup l=>.tuple (toPs l)
noncomputable def toPs:List Tr->List PyData
 | []=>[]
 | t::r=>toP t::toPs r
end
mutual
theorem toP_depth:∀t:Tr,(toP t).depth=t.toD.deep
 | .int i=>rfl
 | .str x=>rfl
 | .tup l=>by
  show ahA (toPs l)+1=Dt.gI (Tr.toDs l)+1
  rw [toPs_depth l]
theorem toPs_depth:∀l:List Tr,ahA (toPs l)=Dt.gI (Tr.toDs l)
 | []=>rfl
 | t::r=>by
  show max (toP t).depth (ahA (toPs r))=max t.toD.deep (Dt.gI (Tr.toDs r))
  rw [toP_depth t,toPs_depth r]
end
mutual
theorem toP_nodict:∀t:Tr,(toP t).hasDict=false
 | .int i=>rfl
 | .str x=>rfl
 | .tup l=>by
  show ag5 (toPs l)=false
  exact toPs_nodict l
theorem toPs_nodict:∀l:List Tr,ag5 (toPs l)=false
 | []=>rfl
 | t::r=>by
  show((toP t).hasDict || ag5 (toPs r))=false
  rw [toP_nodict t,toPs_nodict r]
  rfl
end
section
variable {X:Cx} {pins:List (aay × Obj)} {σ:St} {H:Hp} {s:aah}
mutual
theorem Ff (I:Inv X pins σ H s):∀(t:Tr) {x:V} {u:aae},jm X.K H t.toD x->RelV x u->∃as,Reads s.heap u (toP t) as
 | .int i,x,u,h,r=>by
  simp only [Tr.toD] at h
  cases h
  obtain⟨t,rfl⟩:=r
  exact⟨_,.int i t⟩
 | .str i,x,u,h,r=>by
  simp only [Tr.toD] at h
  cases h
  obtain⟨t,rfl⟩:=r
  exact⟨_,.str i t⟩
 | .tup l,x,u,h,r=>by
  obtain⟨p,ys,its,rfl,⟨o,F,B,n,hd⟩,rv,q⟩:=Ci I h r
  obtain⟨as,z⟩:=uu I l q rv
  exact⟨as,.tuple F B hd z⟩
theorem uu (I:Inv X pins σ H s):∀(l:List Tr) {ys:List V} {its:List aae},Ts X.K H l ys->Vals ys its->∃as,ReadsAll s.heap its (toPs l) as
 | [],[],_,_,.nil=>⟨_,.nil⟩
 | [],_::_,_,h,_=>by have:=h.1;simp at this
 | _::_,[],_,h,_=>by have:=h.1;simp at this
 | t::l,y::ys,_,h,.cons r q=>by
  obtain⟨as,z⟩:=Ff I t (h.2 0 (by simp) (by simp)) r
  obtain⟨bs,B⟩:=uu I l (ys:=ys) ⟨by have:=h.1;simpa using this,fun i h1 h2=>h.2 (i+1) (by simpa using h1) (by simpa using h2)⟩ q
  exact⟨_,.cons z B⟩
end
end
section
variable {X:Cx} {e:Expr} {te:TE} {pre:Str} {j:Nat} {p1 p2 p3:Pos}
def WW (K:aaa) (te:TE):TE:=fun σ H Q=>te σ H fun y H1=>∃l,jm K H1 (Tr.tup l).toD y/\(Tr.tup l).toD.deep<=18/\(toP (.tup l)).showable=true/\(toP (.tup l)).shown.length<=1000000/\∀x,Q (.str x) H1
theorem JG (J:X.A.guards=some []) (O:X.A.units+64<cLine) (G:PE X e te) (L:autoParam (pre.length<=1000) z1._auto_1):PE X (.JoinedStr [.Constant (.str pre) j p1,.FormattedValue e 114 none p2] p3) (WW X.K te):=by
 intro pins s σ H Q I h
 refine wpAny_JoinedStr ?_
 refine ah3 ⟨pre,_,rfl,?_,?_⟩
 ·show(agm++pre).length<=aaj
  rw [strLen_append,aaz]
  have:agm.length=0:=rfl
  omega
 refine wpAny_FormattedValue_repr (thn (G pins _ σ H _ (I.tok _) h) fun u s1 Zq=>?_)
 obtain⟨y,H1,I1,B,l,hd,F,hs,hz,q⟩:=Zq
 obtain⟨as,rd⟩:=Ff I1 (.tup l) hd B
 obtain⟨p,_,_,rfl,_⟩:=Ci I1 hd B
 have abR:=toP_depth (.tup l)
 refine pyReprObj_of_reads rd hs (fun z=>by rw [toP_nodict] at z;cases z) J (by rw [abR];omega) (fun _ _ z=>z) (fun h' tk t' kp=>?_) (by rw [aaz];omega)
 have hlen:(agm++pre++(toP (.tup l)).shown).length<=aaj:=by
  rw [strLen_append,strLen_append,aaz]
  have:agm.length=0:=rfl
  omega
 exact wpAny_formatField_str ⟨_,_,rfl,hlen,hlen,.str _,H1,I1.kept kp,⟨_,rfl⟩,q _⟩ ⟨_,_,rfl,hlen,hlen,.str _,H1,I1.kept kp,⟨_,rfl⟩,q _⟩ (by rw [aaz];omega)
end
noncomputable def Vs (k:Str) (as:List Str):Tr:=.tup [.str k,.tup (as.map .str)]
def Shw (x:Str):Prop:=x.length<=100/\∀c∈x.cps.toList,c<16 ^ 8
theorem wK:∀(as:List Str),(∀a∈as,Shw a)->aid (toPs (as.map .str))=true/\((ad0 (toPs (as.map .str))).map (·.length)).sum<=1002 * as.length/\(ad0 (toPs (as.map .str))).length=as.length
 | [],_=>⟨rfl,aar _,rfl⟩
 | a::r,h=>by
  obtain⟨z,B,F⟩:=wK r fun b q=>h b (aam _ q)
  have ha:=h a (aas ..)
  have y:=StrLaws.reprText_len a ha.2
  refine⟨z,?_,?_⟩
  ·show(reprText a).length+((ad0 (toPs (r.map .str))).map (·.length)).sum<=1002 * (r.length+1)
   have:=ha.1
   omega
  ·show(ad0 (toPs (r.map .str))).length+1=r.length+1
   omega
theorem sN:∀(as:List Str),Dt.gI (Tr.toDs (as.map .str))=0
 | []=>rfl
 | a::r=>by
  show max 0 (Dt.gI (Tr.toDs (r.map .str)))=0
  rw [sN r]
  rfl
theorem Ba (k:Str) (as:List Str):(Vs k as).toD.deep=2:=by
 show max 0 (max (Dt.gI (Tr.toDs (as.map .str))+1) 0)+1=2
 rw [sN]
 rfl
theorem mI {K:aaa} {H:Hp} {t:aay} {as:List Str} (h:bH K H t (as.map .str)):jm K H (Tr.tup (as.map .str)).toD (.ref t):=by
 simp only [Tr.toD]
 refine .tup h (by rw [toDs_length,Lm9,Lm9]) fun i h1 h2=>?_
 rw [toDs_get _ i (by rw [toDs_length] at h1;exact h1)]
 simp only [aaO]
 simp only [Tr.toD]
 exact .str _
theorem NZ {K:aaa} {H:Hp} {t q:aay} {k:Str} {as:List Str} (h1:bH K H t [.str k,.ref q]) (h2:bH K H q (as.map .str)):jm K H (Vs k as).toD (.ref t):=by
 show jm K H (.tup [.str k,(Tr.tup (as.map .str)).toD]) (.ref t)
 refine .tup h1 rfl fun i i1 i2=>?_
 match i,i1,i2 with
 | 0,_,_=>exact .str _
 | 1,_,_=>exact mI h2
def KJ (P:abn) (w:abU) (K:aaa) (mg:Str->Option aae) (base:Heap) (x:Str) (k:Nat) (ps:List Str) (sp:Sp):Prop :=
 ∃f fd,aX P w K mg base (Gy P w) k f fd ps sp/\Binds K fd ps []/\adM K (.ref f)=true/\mg x=some (.ref f)
section
variable {P:abn} {w:abU} {K:aaa} {mg:Str->Option aae} {base:Heap} {N:List Str} {qual:Str} {scope:Scope} {f:aay} {cd:aae} {A:abP} {outer:List Env} {s₀:aah} {H₀:Hp} {E:XK} {x:Str} {k:Nat} {ps:List Str} {sp:Sp} {p pos:Pos} {e:Expr} {es:List Expr} {t:TA}
theorem Fg (c:KJ P w K mg base x k ps sp) (hr:dy k (jZ P w K mg base N qual scope f cd A outer s₀ H₀ E).A) (B:Gl (jZ P w K mg base N qual scope f cd A outer s₀ H₀ E) x) (ha:PA (jZ P w K mg base N qual scope f cd A outer s₀ H₀ E) (e::es) t)
  (yS:autoParam ((x == ("__debug__":Str))=false) z1._auto_1) (z:autoParam (starEach (e::es) (jZ P w K mg base N qual scope f cd A outer s₀ H₀ E).env=(false,eval e (jZ P w K mg base N qual scope f cd A outer s₀ H₀ E).env)::starEach es (jZ P w K mg base N qual scope f cd A outer s₀ H₀ E).env) z0._auto_1)
  (q:autoParam ((backTo pos (starEach es (jZ P w K mg base N qual scope f cd A outer s₀ H₀ E).env)).any (·.1)=false) z0._auto_1):PE (jZ P w K mg base N qual scope f cd A outer s₀ H₀ E) (.Call (.Name x p) (e::es) [] pos) (MM sp [] E t):=by
 obtain⟨G,fd,F,b,kp,mg⟩:=c
 exact Jb F hr B mg kp b .nil Ws ha yS z q
end
section
variable {X:Cx} {x:Str} {k:Nat} {ps:List Str} {sp:Sp} {p pos:Pos} {e:Expr} {es:List Expr} {t:TA} {pn:List (aay × Obj)} {R:aae->St->Hp->Prop}
theorem N1 (c:KJ X.prog X.w X.K X.mg X.base x k ps sp) (hr:dy k X.A) (B:Gl X x) (ha:PA (qp X pn R) (e::es) t) (yS:autoParam ((x == ("__debug__":Str))=false) z1._auto_1) (z:autoParam (starEach (e::es) X.env=(false,eval e X.env)::starEach es X.env) z0._auto_1) (q:autoParam ((backTo pos (starEach es X.env)).any (·.1)=false) z0._auto_1) :
  PE (qp X pn R) (.Call (.Name x p) (e::es) [] pos) (M3 sp [] R t):=by
 obtain⟨G,fd,F,b,kp,mg⟩:=c
 exact M4 F hr B mg kp b .nil ha yS z q
end
section
variable {X:Cx}
end
end L2
namespace Bk
open PySem L2 cE
def Qx (p:Cs):Prop:=p≠[]/\p.length<=100/\∀c∈p,c<16 ^ 8
theorem Qx.shw {p:Cs} (h:Qx p):Shw (S p):=⟨by rw [aY];exact h.2.1,by rw [cz];exact h.2.2⟩
structure FS (f:Fc):Prop where
 k:Qx f.k
 as:∀a∈f.as,Qx a
 n:f.as.length<=100
noncomputable def fT (f:Fc):Tr:=Vs (S f.k) (f.as.map S)
theorem pK (l:List Cs):l.map tx=(l.map S).map V.str:=by rw [abY];rfl
theorem Fact.Se {K:aaa} {H:Hp} {f:Fc} {v:V} (h:Fact K H f v):jm K H (fT f).toD v:=by
 obtain⟨t,q,rfl,h1,h2⟩:=h
 exact NZ h1 (by rw [<- pK];exact h2)
theorem Kind.sm {K:aaa} {H H':Hp} (s:ah H H') {k:Kd} {v:V} (h:Kind K H k v):Kind K H' k v:=by
 obtain⟨t,e,q⟩:=h
 exact⟨t,e,q.same s⟩
theorem Fact.sm {K:aaa} {H H':Hp} (s:ah H H') {f:Fc} {v:V} (h:Fact K H f v):Fact K H' f v:=by
 obtain⟨t,z,e,q,q2⟩:=h
 exact⟨t,z,e,q.same s,q2.same s⟩
noncomputable def Cj (acc:List Cs) (n:Cs):List Cs:=if great n=true then (if n∈acc then acc else acc++[n]) else acc
noncomputable def kn (acc ns:List Cs):List Cs:=ns.foldl Cj acc
theorem Ck:∀(ns acc:List Cs),(kn acc ns).length<=acc.length+ns.length
 | [],acc=>by simp [kn]
 | n::r,acc=>by
  have z:=Ck r (Cj acc n)
  have y:(Cj acc n).length<=acc.length+1:=by
   unfold Cj
   split
   ·split
    ·omega
    ·simp
   ·omega
  show(kn (Cj acc n) r).length<=_
  rw [aal]
  omega
end Bk
namespace L2
open PySem PySem.Spec PyProof.Rows
end L2
namespace Bk
open PySem L2 cE
noncomputable def mJ (ks:List Kd):List Cs:=(ks.filter (·.l)).map (·.n)
theorem dX {K:aaa} {H:Hp}:∀{fs:List Fc} {ys:List V},Paired (Fact K H) fs ys->Ts K H (fs.map fT) ys:=fun {fs ys} h=>by
 have hl:=aai h
 refine⟨by rw [Lm9];exact hl,fun i h1 h2=>?_⟩
 rw [aaO]
 exact Fact.Se (paired_at h i (by simpa using h1) h2)
theorem WX (f:Fc):Ef (fT f)=1/\(fT f).toD.deep<=18:=⟨rfl,by unfold fT;rw [Ba];decide⟩
theorem JH:∀(a b:List Str),sy (a.map Tr.str) (b.map Tr.str)=true
 | [],_=>by simp [sy]
 | _::_,[]=>by simp [sy]
 | x::a,y::b=>by simp [sy,zu,JH a b]
theorem WY (f g:Fc):zu (fT f) (fT g)=true:=by
 have z:=JH (f.as.map S) (g.as.map S)
 unfold fT Vs
 simp only [zu,sy,aeB,Bool.and_true]
 exact z
theorem oo {K:aaa} {H H':Hp} (s:ah H H') {ts:List Tr} {ys:List V} (h:Ts K H ts ys):Ts K H' ts ys:=⟨h.1,fun i h1 h2=>(h.2 i h1 h2).same s⟩
end Bk
namespace L2
open PySem
end L2
namespace Bk
open PySem L2 cE
theorem Uc (acc a b:List Cs):kn acc (a++b)=kn (kn acc a) b:=by unfold kn;rw [aez]
theorem KL {fs:List Fc} {i:Nat} (h:i<fs.length):(fs.take (i+1)).flatMap (·.as)=(fs.take i).flatMap (·.as)++fs[i].as:=by
 rw [aao h,acq]
 simp
end Bk
namespace L2
end L2
namespace L2
open PySem PySem.Spec PyProof.Rows
section
variable {X:Cx}
def Qy (K:aaa):R2:=fun x y H Q=>∃p ys ts l,y=.ref p/\aC K H p ys/\Ts K H ts ys/\jm K H (Tr.tup l).toD x/\(Tr.tup l).toD.deep<=8/\(∀t∈ts,(∃q,t=.tup q)/\t.toD.deep<=8)/\Q (.bl (!(ts.any fun a=>eqT a (.tup l)))) H
theorem KN (hu:X.A.units+64<cLine):qc X (compareOp .NotIn) (Qy X.K):=by
 intro pins s σ H x y v u Q I rx ry h
 obtain⟨p,ys,ts,l,rfl,hq,⟨hl,B⟩,hd,a1,Fe,q⟩:=h
 cases ry
 obtain⟨its,r,pl,hz⟩:=I.list hq
 have hlen:=r.length
 have at_:∀i (hi:i<its.length),∃a,ys[i]'(by omega)=.ref a/\its[i]=.ref a:=fun i hi=>by
  obtain⟨L,f1,q1⟩:=r.get (i:=i) (x:=ys[i]'(by omega)) (by simp)
  have G:its[i]=L:=(aaf.mp f1).2
  obtain⟨⟨qq,eq⟩,_⟩:=Fe _ (aan (show i<ts.length by omega))
  have z:=B i (by omega) (by omega)
  rw [eq] at z
  obtain⟨a,_,_,V,_⟩:=Ci I z q1
  have hy:ys[i]'(by omega)=.ref a:=by
   simp only [Tr.toD] at z
   cases WZ:ys[i]'(by omega) with
   | ref b=>rw [WZ] at q1;cases q1;cases V;rfl
   | _=>rw [WZ] at z;cases z
  exact⟨a,hy,by rw [G,V]⟩
 have uni:∀i j (hi:i<its.length) (F:j<its.length),its[i]=its[j]->ts[i]'(by omega)=ts[j]'(by omega):=fun i j hi F e=>by
  obtain⟨a,ya,ia⟩:=at_ i hi
  obtain⟨b,yb,ib⟩:=at_ j F
  rw [ia,ib] at e
  have e:a=b:=by injection e
  subst e
  have z1:=B i (by omega) (by omega)
  have z2:=B j (by omega) (by omega)
  rw [ya] at z1
  rw [yb] at z2
  exact qK (vV I rfl 8 (Fe _ (aan (show i<ts.length by omega))).2 z1 z2)
 classical
 let e:aae->Bool:=fun w=>decide (∃i,∃hi:i<its.length,its[i]=w/\eqT (ts[i]'(by omega)) (.tup l)=true)
 have Y:∀i (hi:i<its.length),e its[i]=eqT (ts[i]'(by omega)) (.tup l):=fun i hi=>by
  cases Z:eqT (ts[i]'(by omega)) (.tup l) with
  | true=>exact decide_eq_true ⟨i,hi,rfl,Z⟩
  | false =>
   refine decide_eq_false ?_
   rintro⟨j,F,ej,tj⟩
   rw [uni j i F hi ej,Z] at tj
   cases tj
 refine ah8 e pl.isList (fun w J=>?_) ⟨.bl _,H,I,rfl,?_⟩
 ·have J:w∈its:=by simpa using J
  obtain⟨i,hi,rfl⟩:=ahJ.mp J
  rw [Y i hi]
  obtain⟨L,f1,q1⟩:=r.get (i:=i) (x:=ys[i]'(by omega)) (by simp)
  have G:its[i]=L:=(aaf.mp f1).2
  rw [G]
  exact vW I rfl 8 X.A.in1 (Fe _ (aan (show i<ts.length by omega))).2 (by show X.A.units+1+8<cLine;omega) (B i (by omega) (by omega)) hd q1 rx
 ·have e2:its.toArray.any e=ts.any fun a=>eqT a (.tup l):=by
   rw [show its.toArray.any e=its.any e by simp]
   have e3:its.map e=ts.map fun a=>eqT a (.tup l):=by
    apply agr (by simp;omega)
    intro i h1 h2
    rw [aaO,aaO]
    exact Y i (by simpa using h1)
   have O:∀{α:Type} (l:List α) (f:α->Bool),l.any f=(l.map f).any id:=fun l f=>by rw [agQ];rfl
   rw [O,e3,<- O]
  rw [e2]
  exact q
def Sf (K:aaa):R2:=fun x y H Q=>∃a b xs ys,x=.ref a/\y=.ref b/\bH K H a xs/\bH K H b ys/\xs.length+ys.length<=aaj /\
 (xs=[]->Q (.ref b) H)/\(xs≠[]->ys=[]->Q (.ref a) H)/\(xs≠[]->ys≠[]->∀p,H p=none->Q (.ref p) (upd H p (.tup (xs++ys))))
theorem Qz:qc X (binaryOp .Add) (Sf X.K):=by
 intro pins s σ H x y v u Q I rx ry h
 obtain⟨a,b,xs,ys,rfl,rfl,ha,B,hz,q0,q1,q2⟩:=h
 by_cases z:xs=[]
 ·cases rx
  cases ry
  obtain⟨its,J,p1,_⟩:=I.tuple ha
  obtain⟨dF,r2,p2,_⟩:=I.tuple B
  have hi:its=[]:=J.vq.mpr z
  obtain⟨⟨cls,dd,data,sl⟩,G,F,n,hd⟩:=id p1
  obtain⟨⟨Wg,RY,data2,Jc⟩,Ko,Pk,n2,q⟩:=id p2
  simp only at F hd Pk q
  subst F hd Pk q
  exact concat_meets ⟨_,G,rfl⟩ ⟨_,Ko,rfl⟩ noFill_tuple_add seq_tuple_add agf af7 (ae3 _ _)
   (tuple_addW0 a b its.toArray dF.toArray n n2 dd RY sl Jc (by simp [hi])) ⟨G,Ko,.ref b,H,I,rfl,q0 z⟩
 ·exact PV pins s σ H _ _ v u Q I rx ry ⟨a,b,xs,ys,rfl,rfl,ha,B,z,hz,q1 z,q2 z⟩
end
end L2
namespace Bk
open PySem L2 cE
def pL (K:aaa) (H:Hp) (l:aay) (ks:List Kd):Prop:=∃kvs,H l=some (.lst kvs)/\Paired (Kind K H) ks kvs
def jo (K:aaa) (H:Hp) (l:aay) (fs:List Fc):Prop:=∃A3,H l=some (.lst A3)/\Paired (Fact K H) fs A3
theorem pL.sm {K:aaa} {H H':Hp} {l:aay} {ks:List Kd} (s:ah H H') (h:pL K H l ks):pL K H' l ks:=by
 obtain⟨kvs,h1,h2⟩:=h
 exact⟨kvs,s _ _ h1,dU h2 fun _ _ _=>Kind.sm s⟩
theorem jo.sm {K:aaa} {H H':Hp} {l:aay} {fs:List Fc} (s:ah H H') (h:jo K H l fs):jo K H' l fs:=by
 obtain⟨kvs,h1,h2⟩:=h
 exact⟨kvs,s _ _ h1,dU h2 fun _ _ _=>Fact.sm s⟩
theorem jV {p:Cs} (h:aI p=true):Qx p:=by
 unfold aI at h
 rw [abg,abg] at h
 have h1:=of_decide_eq_true h.1
 have h2:=of_decide_eq_true h.2.1
 refine⟨fun e=>by rw [e] at h1;simp at h1,by omega,fun c q=>?_⟩
 have z:=ab3.mp h.2.2 c q
 have key:∀c:Nat,bu c=true->c<200:=by
  intro c q
  unfold bu at q
  have B:∀d∈fM.cps.toList,d<200:=by decide +kernel
  have F:∀d∈kj.cps.toList,d<200:=by decide +kernel
  have G:∀d∈Nh.cps.toList,d<200:=by decide +kernel
  rw [ahB,ahB] at q
  rcases q with h|h|h
  ·exact B c (of_decide_eq_true h)
  ·exact F c (of_decide_eq_true h)
  ·exact G c (of_decide_eq_true h)
 have:=key c z
 omega
theorem cu {K:aaa} {H:Hp} {d t:aay} {ys:List V} {o:HO} {xs:List V} (hd:H d=some (.lst ys)) (h:bH K H t xs):bH K (upd H d o) t xs:=by
 rcases h with(h|⟨ob,h⟩)|h
 ·refine .inl (.inl ?_)
  rw [aD (fun e=>by rw [e,hd] at h;cases h)]
  exact h
 ·refine .inl (.inr ⟨ob,?_⟩)
  rw [aD (fun e=>by rw [e,hd] at h;cases h)]
  exact h
 ·exact .inr h
end Bk
namespace L2
theorem fO {z q:TS} {D:Ends} {σ:St} {H:Hp} (Good:St->Hp->Prop) (h:∀N:St->Hp->Prop,(∀σ' H',Good σ' H'->N σ' H')->z { D with nx:=N } σ H) (fin:∀σ' H',Good σ' H'->q D σ' H'):S2 z q D σ H:=h (q D) fin
end L2
namespace Bk
open PySem L2 cE
theorem Bb:∀(l m:List Cs),l.Nodup->(∀x∈l,x∈m)->l.length<=m.length
 | [],_,_,_=>ab4 _
 | x::r,m,nd,h=>by
  have q:=h x (aas ..)
  have nr:=ac6.mp nd
  have z:=Bb r (m.erase x) nr.2 fun y B=>(List.mem_erase_of_ne (fun e=>nr.1 (by rw [<- e];exact B))).mpr (h y (aam _ B))
  rw [List.length_erase_of_mem q] at z
  have:1<=m.length:=List.length_pos_of_mem q
  rw [aal]
  omega
end Bk
namespace L2
theorem aL {i:Nat} {x:V} {σ:St} {H:Hp} {K:St->Hp->Prop} (h:K (σ.set i (some x)) H):AH i x σ H K:=h
theorem hid9 {t u:TS} {D:Ends} {σ:St} {H:Hp} (h:∀N:St->Hp->Prop,(∀σ' H',u D σ' H'->N σ' H')->t { D with nx:=N } σ H):S2 t u D σ H:=h (u D) fun _ _ h=>h
theorem KO {q:TS} {D:Ends} {σ:St} {H:Hp} {i:Nat} {v:V} (h:q D (σ.set i (some v)) H):S2 (PD (tC v) (AH i)) q D σ H:=h
end L2
namespace Bk
open PySem L2 cE
end Bk
namespace PySem.W
open PySem PySem.Spec PySem.Calls PyProof.Rows Builtin Builtin.ObjectAttr Builtin.Getset_descriptor
theorem slot_ve_ga:Slot "ValueError" "__getattribute__" "BaseException.__getattribute__" :=
 .of (owner:="BaseException") (n:="__getattribute__") (by rw [typeLookup_type,builtinLookup_eq_fast];kernel_rfl) (by decide +kernel) (by decide +kernel) (by decide +kernel)
  (by first|exact .inl (by decide +kernel)|exact .inr (by decide +kernel)) (by rw [isSubtype_type];kernel_rfl)
structure ExcKit (K:Frag) (D:aay):Prop where
 ga:findIn K (.ref D) "__getattribute__"=some (some (.builtin "BaseException.__getattribute__"))
 gt:findIn K (.ref D) "__getattr__"=some none
 cl:findIn K (.ref D) "__class__"=some (some (.builtin "object.__class__"))
 hn:specialIn K (.builtin "object.__class__") "__get__"=some (some (.builtin "getset_descriptor.__get__"))
 hs:specialIn K (.builtin "object.__class__") "__set__"=some (some (.builtin "getset_descriptor.__set__"))
 mo:mroIn K D (.type "object")=some true
 mb:mroIn K D (.type "BaseException")=some true
 ic:isClsIn K D=true
section
variable {prog:abn} {w:abU} {A:abP} {E:aae->aah->Prop} {K:Frag} {x D:aay} {ox:Obj}
theorem Hk {tp:aae} {s:aah} {R:Result->aah->Prop} (X:K.In s.heap) (B:s.heap.get? x=some ox) (q:ox.cls=.ref D) (hm:mroIn K D (.type "object")=some true)
  (h:R (.ok (.ret (.ref D))) s):codeAny (model prog w) A (.call (.builtin "getset_descriptor.__get__") ⟨[.builtin "object.__class__",.ref x,tp],[]⟩) R s:=by
 obtain⟨z,g,dr,t,os⟩:=s
 have L0:Looks (model prog w) z (typeOf (.ref x)) (.ref D):=by rw [<- q];exact(aho B).andThen .now
 have L1:=looks_mroIn (M:=model prog w) X hm
 refine codeAny_call_builtin KF.slot_gs.plain KF.entry_gs (KF.slot_gs.check _ _ _ _ _ _ _ _ aie (KF.args_gs _ _ _) ?_)
 unfold Builtin.«getset_descriptor.__get__» descrGet
 rw [dga_obj]
 refine aac (aav ?_)
 unfold descrGetter descrCheckInstance descrNameAndClass isInstance
 simp only [KF.owner_class]
 repeat lk
 refine⟨Code.quiet_builtin _ (by decide +kernel),codeAny_builtin KF.entry_class ?_⟩
 unfold Builtin.«object.__class__» shownTypeOf
 repeat lk
 exact h
theorem exc_class_entry {tk:Tok} {s:aah} {Q:Fin->aah->Prop} (Z:ExcKit K D) (X:K.In s.heap) (B:s.heap.get? x=some ox) (q:ox.cls=.ref D) (G:notCls ox=true) (h:Q (.done (.ret (.ref D))) s) :
  aby (model prog w) A (Builtin.«object.__getattribute__» ⟨[.ref x,.str "__class__" tk],[]⟩) Q E s:=by
 obtain⟨z,g,d,t,os⟩:=s
 have L0:Looks (model prog w) z (typeOf (.ref x)) (.ref D):=by rw [<- q];exact(aho B).andThen .now
 have L1:=looks_findIn (M:=model prog w) X Z.cl
 have J:typeOf (aew "object.__class__")=pure (.type "getset_descriptor"):=aie
 have Zu:(⟨z,g,d,t,os⟩:aah).TypeIs (.builtin "object.__class__") "getset_descriptor":=aie
 have L:=F.slot_gs_get.lookup
 have O:=F.slot_gs_set.lookup
 unfold Builtin.«object.__getattribute__»
 repeat (any_goals (first|assumption|with_reducible refine Looks.at (by assumption) ?_|wp_step))
 refine Hk X B q Z.mo ?_
 exact aav h
theorem exc_ga_check {M:Model} {Sh:aae} {s:aah} {Q:Unit->aah->Prop} (Z:ExcKit K D) (X:K.In s.heap) (J:s.heap.get? x=some ox) (B:ox.cls=.ref D) (G:Q () s):aby M A (checkBuiltinCall "BaseException.__getattribute__" ⟨[.ref x,Sh],[]⟩) Q E s:=by
 obtain⟨z,g,d,t,os⟩:=s
 have hk:builtinKind "BaseException.__getattribute__"=some .slot:=by decide +kernel
 have Ud:splitId "BaseException.__getattribute__"=some ("BaseException","__getattribute__"):=by decide +kernel
 have L0:Looks M z (typeOf (.ref x)) (.ref D):=by rw [<- B];exact(aho J).andThen .now
 have L1:Looks M z (isSubtype (.ref D) (.type "BaseException")) true:=looks_mroIn X Z.mb
 have LI:Looks M z (isInstance (.ref x) (.type "BaseException")) true:=L0.andThen L1
 have ha:=F.args_bexc_ga (.ref x) Sh
 simp only [checkBuiltinCall,hk,Ud]
 refine aac (LI.at ?_)
 refine wpAny_ite_split (fun q=>absurd q (by decide)) fun _=>?_
 exact wpAny_of_eq ha G
theorem KP {s:aah} {Q:Option aae->aah->Prop} (Z:ExcKit K D) (X:K.In s.heap) (G:s.heap.get? x=some ox) (z:ox.cls=.ref D) (B:notCls ox=true) (h:Q (some (.ref D)) { s with toks:=s.toks+1 }) :
  aby (model prog w) A (getAttr? (.ref x) "__class__") Q E s:=by
 obtain⟨J,g,d,t,os⟩:=s
 have L0:Looks (model prog w) J (typeOf (.ref x)) (.ref D):=by rw [<- z];exact(aho G).andThen .now
 have L1:=looks_findIn (M:=model prog w) X Z.ga
 have L2:=looks_findIn (M:=model prog w) X Z.gt
 have W0:(aew "BaseException.__getattribute__" == aew "object.__getattribute__")=false:=by decide +kernel
 have Zv:(onTheHeap (abF D) && aew "BaseException.__getattribute__" == aew "object.__getattribute__")=false:=by rw [W0];rfl
 unfold getAttr? getAttrBy? getAttrBy
 refine aac (wpAny_mkText (aac (wpAny_attempt (wpAny_holding (aac (L0.at (aac (L1.at ?_))))))))
 dsimp only
 rw [Zv]
 refine wpAny_ite_split (fun q=>absurd q (by decide)) fun _=>?_
 unfold getAttrByItsOwn hookBefore
 have L:=slot_ve_ga.bind (.ref x)
 refine aac (show aby (model prog w) A (typeLookup (abF D) (aad "__getattr__")) _ _ _ from L2.at ?_)
 refine aac (wpAny_attempt (wpAny_holding ?_))
 unfold callGetattribute
 refine wpAny_ite_split (fun q=>absurd q (by decide)) fun _=>?_
 repeat (any_goals (first|assumption|wp_step))
 refine codeAny_call_builtin slot_ve_ga.plain F.entry_bexc_ga (exc_ga_check Z X G z (exc_class_entry Z X G z B ?_))
 exact handed_on rfl (aav h)
theorem kitx_exc (Z:ExcKit K D):KitX K (.ref x) (.ref D) (fun h=>h.get? x=some ox/\ox.cls=.ref D/\notCls ox=true) where
 ty:=fun _ _ _ p=>by rw [<- p.2.1];exact(aho p.1).andThen .now
 it:=fun _ _ X _=>by
  have PJ:(clsIn K D).isSome=true:=Z.ic
  unfold clsIn at PJ
  split at PJ
  ·rename_i G d' cd' sl' B
   intro A' L J s' k q
   unfold isType loadHead
   exact aac (wpAny_loadPart (k _ _ (X _ _ B)) (aav q))
  ·cases PJ
 ne:=fun h tp dd its n sl X F=>by
  have PJ:(clsIn K D).isSome=true:=Z.ic
  refine Bool.eq_false_iff.mpr fun q=>?_
  have e:D=tp:=Value.ref.inj (beq_iff_eq.mp q)
  subst e
  unfold clsIn at PJ
  split at PJ
  ·rename_i G d' cd' sl' B
   have z:=(X _ _ B).symm.trans F
   cases z
  ·cases PJ
 ca:=fun X p k=>KP Z X p.1 p.2.1 p.2.2 k
end
end PySem.W
namespace L2
open PySem PySem.Spec PyProof.Rows
section
variable {X:Cx} {x:aay} {oe:Obj} {cls:aae}
def Ue (K:aaa) (x:aay) (cls:aae):List V->Hp->VK->Prop:=fun xs H Q=>∃(y:V) (C:aae) (D:aay) (b:Bool),xs=[.ref x,y]/\((∃c,y=.ref c/\C=.ref c)\/∃n,y=.ty n/\C=.type n)/\cls=.ref D/\PySem.W.ExcKit K D/\acj K (.ref D) C=some b/\Q (.bl b) H
theorem Fh (J:(x,oe)∈X.pn) (G:oe.cls=cls) (B:aeK oe=true):fD X (.builtin "isinstance") (Ue X.K x cls):=by
 intro pins s σ H xs us Q I r h
 obtain⟨y,C,D,b,rfl,O,e,Z,hk,q⟩:=h
 obtain⟨u,V,rfl,rx,ru⟩:=vals2 r
 cases (show u=abF x from rx)
 have F:V=C:=by
  rcases O with⟨c,rfl,rfl⟩|⟨n,rfl,rfl⟩
  ·exact ru
  ·exact ru
 subst F
 have L:=(I.pin (x,oe) (aax _ J)).1
 exact acf (PySem.W.kitx_exc (ox:=oe) Z) I.oE ⟨L,G.trans e,B⟩ hk (by intro z;cases z) fun tk=>⟨.bl b,H,I.tok _,rfl,q⟩
end
noncomputable abbrev iH (X:Cx) (x:aay) (oe:Obj):Cx:={ X with A:=X.A.mark (some (.ref x)),calm:=false,pn:=X.pn++[(x,oe)],xe:=fun _ _=>False }
theorem Ug {X:Cx} {pins:List (aay × Obj)} {σ:St} {H:Hp} {s:aah} {M:Model} {A:abP} {E:aae->aah->Prop} {i:Nat} {n:Str} {Q:Bool->aah->Prop} (I:Inv X pins σ H s) (hN:X.N.Nodup) (hi:X.N[i]?=some n) (hk:X.env.scope.names.lookup n=some .local)
  (hv:∃v,σ[i]?=some (some v)) (h:∀s',Inv X pins (σ.set i none) H s'->Q true s'):aby M A (nsDel X.env.locals n) Q E s:=by
 obtain⟨m,hn,hl⟩:=id I.loc
 have Kb:=I.Kb
 obtain⟨v0,F⟩:=hv
 have Z:(m n).isSome=true:=by
  obtain⟨u,r,q⟩:=hl i n v0 hi F (.inl hk)
  rcases q with⟨_,e⟩|⟨k,c,e,z⟩
  ·rw [e];rfl
  ·have Y:X.env.kindOf n=some .local:=hk
   rcases k with k|k <;> rw [Y] at k <;> cases k
 refine wpAny_nsDel_keeps hn fun h' v a1 hs=>?_
 rw [Z]
 have tracked:mm X.prog X.w H h':=fun b ob e=>by
  refine(I.hok b ob e).Ej (fun c w' L q=>(hs.2 c ?_).trans q) (fun _ q=>q) fun _ _ q=>q
  rintro rfl
  rcases L with rfl|L
  ·rw [I.free] at e;cases e
  ·rw [I.free] at L;cases L
 refine h _ ⟨I.ok,I.os,I.bare,⟨fun b o e nn O G=>?_,fun b o e nn O G=>?_,I.base.free,fun b o e G=>?_,I.base.pj,I.base.oz,I.base.pw⟩,⟨_,a1,fun j y v' B J e3=>?_⟩,fun y c e=>?_,I.free,I.iC,fun p hp=>?_,tracked,by rw [List.length_set];exact I.len⟩
 ·exact(hs.2 b (abj (aa6 (aaA e) I.ok.above))).trans (I.base.keep b o e nn O G)
 ·obtain⟨sl,B⟩:=I.base.slot b o e nn O G
  exact⟨sl,(hs.2 b (abj (aa6 (aaA e) I.ok.above))).trans B⟩
 ·obtain⟨o',B⟩:=I.base.there b o e G
  exact⟨o',(hs.2 b (abj (aa6 (aaA e) I.ok.above))).trans B⟩
 ·by_cases V:j=i
  ·subst V
   rw [aed (aaf.mp F).1] at J
   cases J
  ·rw [ags (aea V)] at J
   obtain⟨u',r',q⟩:=hl j y v' B J e3
   refine⟨u',r',?_⟩
   rcases q with⟨k,e⟩|⟨k,c,e,z⟩
   ·refine .inl ⟨k,?_⟩
    have:y≠n:=fun e=>V (vK hN B (e ▸ hi))
    simp [this,e]
   ·exact .inr ⟨k,c,e,z.sameBut hs (Kb y c e)⟩
 ·obtain⟨w',z⟩:=I.cell y c e
  exact⟨w',z.sameBut hs (Kb y c e)⟩
 ·obtain⟨e,nn,ne,nf,d⟩:=I.pin p hp
  exact⟨(hs.2 p.1 ne).trans e,nn,ne,nf,d⟩
theorem vG {X:Cx} {pins:List (aay × Obj)} {σ:St} {H:Hp} {s:aah} {M:Model} {A:abP} {E:aae->aah->Prop} {i:Nat} {n:Str} {pos:Pos} {Q:Unit->aah->Prop} (I:Inv X pins σ H s) (q:X.N.Nodup) (hi:X.N[i]?=some n) (hk:X.env.scope.names.lookup n=some .local)
  (h:∀s',Inv X pins (σ.set i none) H s'->Q () s'):aby M A (do bindName X.env n .none;unbindBehindTheSuite X.env n pos) Q E s:=by
 have z:(X.env.scope.kind == .class || (X.env.scope.kind == .module && X.env.locals != X.env.globals))=false:=by rw [I.ok.kind];rfl
 have hl:X.env.kindOf n=some .local:=hk
 have Y3:i<σ.length:=by rw [I.len];exact(aaf.mp hi).1
 refine aac (wpAny_bindName (mn (v:=.cg) I q hi (.inl hk) rfl (fun s1 I1=>?_) (.inr hk)))
 unfold unbindBehindTheSuite
 refine wpAny_onRaise ?_
 unfold unbindName
 refine aac (wpAny_point (aac ?_))
 unfold deleteName
 simp only [hl,z]
 rw [if_neg (by decide)]
 refine aac (Ug I1 q hi hk ⟨.cg,aed Y3⟩ fun s2 I2=>?_)
 simp only [Bool.not_true,abQ,if_false]
 rw [List.set_set] at I2
 exact aav (wpAny_point (h _ I2))
section
variable {X:Cx} {e:Expr} {te:TE} {pre:Str} {j:Nat} {p1 p2 p3:Pos}
end
end L2
namespace Bk
open PySem L2 cE
theorem oq:∀(l cur:Cs),∀p∈bY l cur,∀c∈p,c∈l\/c∈cur
 | [],cur,p,F,c,B=>by
  have q:p∈shut cur []:=F
  unfold shut at q
  by_cases h:cur=[]
  ·rw [if_pos h] at q;cases q
  ·rw [if_neg h] at q
   rw [aap.mp q] at B
   exact .inr B
 | d::r,cur,p,F,c,B=>by
  have q:p∈(if bu d=true then bY r (cur++[d]) else shut cur (if d=32 then bY r [] else [d]::bY r [])):=F
  by_cases ha:bu d=true
  ·rw [if_pos ha] at q
   rcases oq r _ p q c B with z|z
   ·exact .inl (aam _ z)
   ·rcases aaq.mp z with z|z
    ·exact .inr z
    ·rw [aap.mp z];exact .inl (aas ..)
  ·rw [if_neg ha] at q
   have key:p∈(if d=32 then bY r [] else [d]::bY r [])->c∈d::r\/c∈cur:=fun q=>by
    by_cases h2:d=32
    ·rw [if_pos h2] at q
     rcases oq r _ p q c B with z|z
     ·exact .inl (aam _ z)
     ·cases z
    ·rw [if_neg h2] at q
     rcases aaK.mp q with rfl|q
     ·rw [aap.mp B];exact .inl (aas ..)
     ·rcases oq r _ p q c B with z|z
      ·exact .inl (aam _ z)
      ·cases z
   unfold shut at q
   by_cases h:cur=[]
   ·rw [if_pos h] at q;exact key q
   ·rw [if_neg h] at q
    rcases aaK.mp q with rfl|q
    ·exact .inr B
    ·exact key q
def Ref (C:aay) (H:Hp) (E:XK):Prop:=∀H',ah H H'->E (.ref C) none H'
end Bk
namespace L2
open PySem PySem.Spec PyProof.Rows
section
variable {X:Cx}
end
section
variable {X:Cx}
end
end L2
namespace PySem
open Sem (wp)
abbrev FK:=Str × List Str
section
variable {prog:abn} {w:abU}
variable {A:abP} {E:aae->aah->Prop} {s:aah}
end
end PySem
namespace L2
open PySem PySem.Spec PyProof.Rows
section
variable {X:Cx} {pins:List (aay × Obj)} {σ:St} {H:Hp} {s:aah} {a:aay} {xs:List FE} {k:FK} {y:V} {u r:aae} {A:abP} {E:aae->aah->Prop}
end
section
variable {X:Cx} {o i e f b9:Expr} {pos f8 PK apos cpos:Pos} {td ty tv tz:TE}
end
def QA (H:Hp) (l:aay) (ys:List V):Prop:=∃its n sl,H l=some (.jY ⟨.type "tuple",none,.seq its n,sl⟩ (.tup ys))
theorem QA.sm {H H':Hp} {l:aay} {ys:List V} (s:ah H H') (h:QA H l ys):QA H' l ys:=by
 obtain⟨its,n,sl,h⟩:=h
 exact⟨its,n,sl,s _ _ h⟩
section
variable {X:Cx} {pins:List (aay × Obj)} {σ:St} {H:Hp} {s:aah} {a it l:aay} {ys:List V} {its:List aae} {ps:List (Key × V)}
theorem fQ:fD X (.type "tuple") (fun xs H Q=>∃p ys,xs=[.ref p]/\aC X.K H p ys/\∀l its n sl,H l=none->Q (.ref l) (upd H l (.jY ⟨.type "tuple",none,.seq its n,sl⟩ (.tup ys)))):=by
 intro pins s σ H xs us Q I r h
 obtain⟨p,ys,rfl,B,q⟩:=h
 obtain⟨u,rfl,rx⟩:=vals1 r
 cases rx
 obtain⟨its,z,pl,hz⟩:=I.list B
 have hlen:=z.length
 refine call_tuple_list pl.isList (fun h' kp=>?_) (by simp only [aaB] <;> omega)
 have I1:Inv X pins σ H { s with heap:=h' }:=I.kept (t':=s.toks) kp
 have I2:=I1.laid (a:=h'.objs.size) (o:=.jY { cls:=.type "tuple",data:=.seq its.toArray } (.tup ys)) (h':=h'.push { cls:=.type "tuple",data:=.seq its.toArray }) (t':=s.toks) (fun b o e=>aag _ e) (aar _) ⟨aa0 _ rfl,hz,its,z,ah5 _ _⟩
 exact⟨.ref h'.objs.size,_,I2,rfl,q _ _ _ _ (I1.hok.fresh (aar _))⟩
end
section
variable {X:Cx}
end
end L2
namespace Bk
section
variable {α:Type} [DecidableEq α]
end
end Bk
namespace Bk
open PySem L2 cE
deriving instance DecidableEq for Fc
noncomputable def fk (f:Fc):FK:=(S f.k,f.as.map S)
theorem Bc:∀{a b:List Cs},a.map S=b.map S->a=b
 | [],[],_=>rfl
 | [],_::_,h=>by cases h
 | _::_,[],h=>by cases h
 | x::a,y::b,h=>by
  rw [abw,abw] at h
  injection h with h1 h2
  rw [oK h1,Bc h2]
theorem Uh {f g:Fc} (h:fk f=fk g):f=g:=by
 unfold fk at h
 injection h with h1 h2
 cases f
 cases g
 cases oK h1
 cases Bc h2
 rfl
def JI (H:Hp) (f:Fc) (v:V):Prop:=∃t q,v=.ref t/\H t=some (.tup [tx f.k,.ref q])/\H q=some (.tup (f.as.map tx))
theorem JI.fact {K:aaa} {H:Hp} {f:Fc} {v:V} (h:JI H f v):Fact K H f v:=by
 obtain⟨t,q,e,h1,h2⟩:=h
 exact⟨t,q,e,bH.of h1,bH.of h2⟩
end Bk
namespace L2
open PySem PySem.Spec PyProof.Rows Bk
end L2
namespace Bk
open PySem L2 cE
theorem N2 {f g:Fc} (h:fT f=fT g):f=g:=by
 unfold fT Vs at h
 injection h with h
 injection h with h1 h2
 injection h1 with h1
 injection h2 with h2
 injection h2 with h2
 refine Uh ?_
 unfold fk
 rw [h1]
 congr 1
 have key:∀{a b:List Str},a.map Tr.str=b.map Tr.str->a=b:=by
  intro a
  induction a with
  | nil=>intro b e;cases b with|nil=>rfl|cons _ _=>cases e
  | cons x a ih =>
   intro b e
   cases b with
   | nil=>cases e
   | cons y b =>
    rw [abw,abw] at e
    injection e with q z
    injection q with q
    rw [q,ih z]
 exact key h2
theorem wL (l:List Fc) (f:Fc):((l.map fT).any fun a=>eqT a (fT f))=decide (f∈l):=by
 cases e:(l.map fT).any fun a=>eqT a (fT f) with
 | true =>
  obtain⟨t,B,h2⟩:=adv.mp e
  obtain⟨g,q,rfl⟩:=aaw.mp B
  rw [<- N2 (qK h2)]
  exact(decide_eq_true q).symm
 | false =>
  refine(decide_eq_false fun hm=>?_).symm
  have z:=List.any_eq_false.mp e (fT f) (adh hm)
  rw [mH] at z
  exact z rfl
noncomputable def Zw (t:Tr):Fc:=@dite _ (∃g,fT g=t) (Classical.propDecidable _) (fun h=>Classical.choose h) (fun _=>⟨[],[]⟩)
theorem Ui (g:Fc):Zw (fT g)=g:=by
 unfold Zw
 have h:∃g',fT g'=fT g:=⟨g,rfl⟩
 rw [dif_pos h]
 exact N2 (Classical.choose_spec h)
theorem QB {l:List Tr} (h:∀t∈l,∃g,t=fT g):(l.map Zw).map fT=l:=by
 induction l with
 | nil=>rfl
 | cons t r ih =>
  obtain⟨g,rfl⟩:=h t (aas ..)
  rw [abw,abw,Ui,ih fun t q=>h t (aam _ q)]
theorem Uj (l:List Fc):∀t∈E9 (l.map fT),∃g,t=fT g:=fun t q=>by
 obtain⟨g,_,e⟩:=aaw.mp ((A9 _).mem_iff.mp q)
 exact⟨g,e.symm⟩
theorem mI {K:aaa} {H:Hp}:∀{as:List Str} {ys:List V},as.length=ys.length->(∀i (h0:i<(Tr.toDs (as.map Tr.str)).length) (h1:i<ys.length),jm K H (Tr.toDs (as.map Tr.str))[i] ys[i])->ys=as.map V.str
 | [],[],_,_=>rfl
 | [],_::_,h,_=>by cases h
 | _::_,[],h,_=>by cases h
 | a::as,y::ys,h,hd=>by
  have h0:jm K H (Dt.str a) y:=by
   have z:=hd 0 (by simp [Tr.toDs]) (by simp)
   simpa [Tr.toDs,Tr.toD] using z
  have e:y=.str a:=by cases h0;rfl
  have ih:=mI (K:=K) (H:=H) (as:=as) (ys:=ys) (by simpa using h) fun i h0 h1=>by
   have z:=hd (i+1) (by simpa [Tr.toDs] using h0) (by simpa using h1)
   simpa [Tr.toDs] using z
  rw [e,ih]
  rfl
theorem N3 {K:aaa} {H:Hp} {g:Fc} {v:V} (h:jm K H (fT g).toD v):Fact K H g v:=by
 have e:(fT g).toD=.tup [.str (S g.k),.tup (Tr.toDs ((g.as.map S).map Tr.str))]:=by simp [fT,Vs,Tr.toD,Tr.toDs]
 rw [e] at h
 cases h with
 | @tup ds xs p G hl hd =>
  match xs,hl with
  | [J,L],_ =>
   have h0:jm K H (.str (S g.k)) J:=hd 0 (by simp) (by simp)
   have h1:jm K H (.tup (Tr.toDs ((g.as.map S).map Tr.str))) L:=hd 1 (by simp) (by simp)
   cases h0
   cases h1 with
   | @tup ds2 ys q F gW B =>
    have z:=mI (as:=g.as.map S) (ys:=ys) (by rw [toDs_length] at gW;simpa using gW) B
    rw [z,<- pK] at F
    exact⟨p,q,rfl,G,F⟩
theorem Bd {K:aaa} {H:Hp}:∀{gs:List Fc} {ys:List V},Ts K H (gs.map fT) ys->Paired (Fact K H) gs ys
 | [],[],_=>.nil
 | [],_::_,h=>by have:=h.1;simp at this
 | _::_,[],h=>by have:=h.1;simp at this
 | g::gs,y::ys,h=>.cons (N3 (by have z:=h.2 0 (by simp) (by simp);simpa using z)) (Bd ⟨by have:=h.1;simpa using this,fun i h1 h2=>by
   have z:=h.2 (i+1) (by simpa using h1) (by simpa using h2)
   simpa using z⟩)
end Bk
namespace R3
variable (W2 sm:Nat->Bool)
structure Sg:Prop where
 n32:W2 32=false
 n40:W2 40=false
 n41:W2 41=false
 n44:W2 44=false
variable (S:Sg W2)
include S
end R3
namespace Bk
open PySem L2 cE
noncomputable def smN (c:Nat):Bool:=decide (c∈fM.cps.toList)
noncomputable def bJ (g:Fc):Cs:=if g.as=[] then g.k else ((g.k++[40])++ig 44 g.as)++[41]
noncomputable def pM:List Cs->Cs
 | []=>[]
 | [a]=>a
 | a::r=>a++44::32::pM r
structure FG (g:Fc):Prop where
 k:br g.k=true
 as:∀a∈g.as,aI a=true
 n:g.as.length<=4
noncomputable def QC (g:Fc):List Cs:=if g.as=[] then [g.k] else g.k::[40]::between g.as
theorem JJ {g:Fc} (h:FG g):mB (QC g) g:=by
 unfold QC
 by_cases e:g.as=[]
 ·rw [if_pos e]
  have z:=mB.bare h.k
  cases g
  cases e
  exact z
 ·rw [if_neg e]
  exact .args h.k e h.as
theorem mK {p:Cs} (h:aI p=true):p.all bu=true/\p≠[]:=by
 unfold aI at h
 simp only [abg,decide_eq_true_eq] at h
 exact⟨h.2.2,fun e=>by rw [e] at h;simp at h⟩
theorem qL:∀(as:List Cs) (r:Cs),as≠[]->(∀a∈as,aI a=true)->toks (ig 44 as++41::r)=between as++toks r
 | [],_,h,_=>absurd rfl h
 | [a],r,_,h=>by
  have z:=mK (h a (aas ..))
  show toks (a++41::r)=a::[41]::toks r
  rw [d8 z.1 z.2 (show oI (41::r) from Jp),oh rfl]
 | a::b::t,r,_,h=>by
  have z:=mK (h a (aas ..))
  have ih:=qL (b::t) r (by simp) fun x q=>h x (aam _ q)
  show toks ((a++44::ig 44 (b::t))++41::r)=a::[44]::(between (b::t)++toks r)
  rw [abH,aeR,d8 z.1 z.2 (show oI (44::(ig 44 (b::t)++41::r)) from wc),oh rfl,ih]
theorem Be {g:Fc} (h:FG g) {r:Cs} (hr:oI r):toks (bJ g++r)=QC g++toks r:=by
 have hk:=h.k
 unfold br at hk
 rw [abg] at hk
 have z:=mK hk.1
 unfold bJ QC
 by_cases e:g.as=[]
 ·rw [if_pos e,if_pos e,d8 z.1 z.2 hr]
  rfl
 ·rw [if_neg e,if_neg e,abH,abH,abH]
  show toks (g.k++40::(ig 44 g.as++41::r))=g.k::[40]::(between g.as++toks r)
  rw [d8 z.1 z.2 (show oI (40::(ig 44 g.as++41::r)) from Jo),oh rfl,qL g.as r e h.as]
theorem Fi:∀(fs:List Fc),fs≠[]->(∀g∈fs,FG g)->qB (toks (pM (fs.map bJ))) fs
 | [],h,_=>absurd rfl h
 | [g],_,h=>by
  have q:=h g (aas ..)
  have z:=Be q (r:=[]) trivial
  rw [abI,show toks []=[] from rfl,abI] at z
  show qB (toks (bJ g)) [g]
  rw [z]
  exact .one (JJ q)
 | g::B::t,_,h=>by
  have q:=h g (aas ..)
  have ih:=Fi (B::t) (by simp) fun x F=>h x (aam _ F)
  show qB (toks (bJ g++44::32::pM ((B::t).map bJ))) (g::B::t)
  rw [Be q (show oI (44::32::pM ((B::t).map bJ)) from wc),oh rfl,ff]
  exact .more (JJ q) ih
theorem Bf {f:Nat->Bool} (Zx:f 44=true):∀(as:List Cs),(∀a∈as,a.all f=true)->(ig 44 as).all f=true
 | [],_=>rfl
 | [a],h=>h a (aas ..)
 | a::b::t,h=>by
  have ih:=Bf Zx (b::t) fun x q=>h x (aam _ q)
  show(a++44::ig 44 (b::t)).all f=true
  rw [abJ,ab6,ih,Zx,h a (aas ..)]
  rfl
theorem wM:∀(as:List Cs),(∀a∈as,a.length<=12)->(ig 44 as).length<=as.length * 13
 | [],_=>ab4 _
 | [a],h=>by have:=h a (aas ..);show a.length<=1 * 13;omega
 | a::b::t,h=>by
  have ih:=wM (b::t) fun x q=>h x (aam _ q)
  have:=h a (aas ..)
  show(a++44::ig 44 (b::t)).length<=(b::t).length.succ * 13
  rw [aab,aal]
  omega
end Bk
namespace L2
open PySem PySem.Spec PyProof.Rows Bk
theorem N4 {tt:TT} {te:TE} {bo:List Nat} {σ:St} {H1:Hp} {Q:VK} {K:aaa} {a:aay} {xs:List V} {D:aay} (hn:xs.length<aaj) (Pv:Nat->List V->Hp->Prop) (h0:Pv 0 [] (upd H1 D (.lst [])))
  (hl:∀i ys H,Pv i ys H->bH K H a xs) (q:∀i ys H,Pv i ys H->H D=some (.lst ys)/\ys.length<=i)
  (hs:∀i ys H,i<xs.length->Pv i ys H->tt (cQ σ (some (xs.getD i .cg)) bo) H fun b U =>
   if b=true then te (cQ σ (some (xs.getD i .cg)) bo) U fun y H3=>H3 D=some (.lst ys)/\Pv (i+1) (ys++[y]) (upd H3 D (.lst (ys++[y])))
   else Pv (i+1) ys U)
  (hd:∀ys H,Pv xs.length ys H->Q (.ref D) H):lY tt te bo σ Q (RP K a) H1 D :=
 vv (J:=RP K a) (Q:=Q) (D:=D) (H1:=H1) xs.length hn (fun i=>xs.getD i .cg) Pv h0 (fun ys H p=>⟨xs,hl _ ys H p,aar _⟩)
  (fun i ys H p h=>⟨xs,xs[i],hl i ys H p,by simp [h]⟩) (fun i ys H x H' p h y=>⟨y.1,by
   have z:=y.2 xs (hl i ys H p)
   rw [Gd9,z] <;> rfl⟩) q hs hd
section
variable {te:TE} {bo:List Nat} {σ:St} {H1:Hp} {Q:VK} {K:aaa} {a:aay} {xs:List V} {D:aay} {gs:List V}
theorem Bg {i:Nat} {ys:List V} {H':Hp} (hn:gs.length=xs.length) (AR:H1 D=none) (z:∀(i:Nat) x g H' R,xs[i]?=some x->gs[i]?=some g->ah H1 H'->(∀jc,ah H' jc->R g jc)->te (cQ σ (some x) bo) H' R) (hi:i<xs.length)
  (p:ah H1 H'/\H' D=some (.lst ys)/\ys=gs.take i):GX (cQ σ (some (xs.getD i .cg)) bo) H' fun b U =>
   if b=true then te (cQ σ (some (xs.getD i .cg)) bo) U fun y H3=>H3 D=some (.lst ys)/\(ah H1 (upd H3 D (.lst (ys++[y])))/\upd H3 D (.lst (ys++[y])) D=some (.lst (ys++[y]))/\ys++[y]=gs.take (i+1))
   else (ah H1 U/\U D=some (.lst ys)/\ys=gs.take (i+1)):=by
 have B:xs.getD i .cg=xs[i]:=by rw [Gd9,Ge9 hi];rfl
 rw [B]
 unfold GX
 simp only [if_true]
 have q:i<gs.length:=by omega
 refine z i _ gs[i] _ _ (Ge9 hi) (Ge9 q) p.1 fun H3 s3=>?_
 refine⟨s3 _ _ p.2.1,ah.ba (ah.trans p.1 s3) AR _,aj,?_⟩
 rw [p.2.2,aao q]
theorem Fj (hn:gs.length=xs.length) (hz:xs.length<aaj) (AR:H1 D=none) (hl:aC K H1 a xs) (q:∀(i:Nat) x g H' R,xs[i]?=some x->gs[i]?=some g->ah H1 H'->(∀jc,ah H' jc->R g jc)->te (cQ σ (some x) bo) H' R)
  (hd:∀H',ah H1 H'->H' D=some (.lst gs)->Q (.ref D) H'):lY GX te bo σ Q (Mj K a) H1 D:=by
 refine og (K:=K) (a:=a) (xs:=xs) hz (fun i ys H'=>ah H1 H'/\H' D=some (.lst ys)/\ys=gs.take i) ⟨ai AR _,aj,rfl⟩ (fun i ys H' p=>p.1.seq hl) (fun i ys H' p=>⟨p.2.1,by rw [p.2.2,aat];omega⟩) (fun i ys H' hi p=>Bg hn AR q hi p) (fun ys H' p=>?_)
 have z:=p.2.2
 rw [ada (by omega)] at z
 exact hd H' p.1 (z ▸ p.2.1)
theorem Fl (hn:gs.length=xs.length) (hz:xs.length<aaj) (AR:H1 D=none) (hl:bH K H1 a xs) (q:∀(i:Nat) x g H' R,xs[i]?=some x->gs[i]?=some g->ah H1 H'->(∀jc,ah H' jc->R g jc)->te (cQ σ (some x) bo) H' R)
  (hd:∀H',ah H1 H'->H' D=some (.lst gs)->Q (.ref D) H'):lY GX te bo σ Q (RP K a) H1 D:=by
 refine N4 (K:=K) (a:=a) (xs:=xs) hz (fun i ys H'=>ah H1 H'/\H' D=some (.lst ys)/\ys=gs.take i) ⟨ai AR _,aj,rfl⟩ (fun i ys H' p=>hl.same p.1) (fun i ys H' p=>⟨p.2.1,by rw [p.2.2,aat];omega⟩) (fun i ys H' hi p=>Bg hn AR q hi p) (fun ys H' p=>?_)
 have z:=p.2.2
 rw [ada (by omega)] at z
 exact hd H' p.1 (z ▸ p.2.1)
end
end L2
namespace L2
open PySem PySem.Spec PyProof.Rows
section
variable {X:Cx}
end
section
variable {X:Cx} {pins:List (aay × Obj)} {σ:St} {H:Hp} {s:aah} {a it l:aay} {ks:List Str} {its:List aae}
end
end L2
namespace Un
section
variable {α:Type} [DecidableEq α] (great:α->Bool) (lt:α->α->Bool)
variable {great lt}
end
end Un
namespace Bk
open PySem L2 cE
abbrev uw:=List (Cs × Cs)
noncomputable def fJ (p:Cs × Cs):Key × V:=(abx (S p.1),tx p.2)
noncomputable def KQ (st:uw) (n:Cs):Option Cs:=(st.find? fun p=>decide (p.1=n)).map (·.2)
noncomputable def gM (st:uw) (n:Cs):Cs:=(KQ st n).getD n
theorem mL (st:uw) (n:Cs):bM (st.map fJ) (abx (S n):Key)=(KQ st n).map tx:=by
 unfold bM KQ
 induction st with
 | nil=>rfl
 | cons a r ih =>
  rw [abw,acn,acn]
  have e:(decide ((fJ a).1=(abx (S n):Key)))=decide (a.1=n):=by
   show decide ((abx (S a.1):Key)=abx (S n))=decide (a.1=n)
   exact decide_eq_decide.mpr ⟨fun h=>oK (agh h),fun h=>by rw [h]⟩
  rw [e]
  by_cases h:a.1=n
  ·rw [decide_eq_true h];rfl
  ·rw [decide_eq_false h];exact ih
theorem N5 {st:uw} (nd:(st.map (·.1)).Nodup) {e:Cs × Cs} (B:e∈st):KQ st e.1=some e.2:=by
 unfold KQ
 induction st with
 | nil=>cases B
 | cons a r ih =>
  rw [abw,ac6] at nd
  rw [acn]
  rcases aaK.mp B with h|h
  ·subst h;simp
  ·have q:¬ a.1=e.1:=fun z=>nd.1 (z ▸ adh h)
   rw [decide_eq_false q]
   exact ih nd.2 h
noncomputable def wr (st:uw) (f:Fc):Fc:=⟨f.k,f.as.map (gM st)⟩
def pN (K:aaa):Sp:=fun vs H Q _=>∃(d:aay) (v:V) (st:uw) (f:Fc),vs=[.ref d,v]/\H d=some (.dK (st.map fJ))/\Fact K H f v/\f.as.length<=1000/\∀q H',ah H H'->JI H' (wr st f) q->Q q H'
noncomputable def pE (e:Cs × Cs):Tr:=.tup [.str (S e.1),.str (S e.2)]
end Bk
namespace L2
open PySem PySem.Spec PyProof.Rows Bk
end L2
namespace Bk
open PySem L2 cE
end Bk
namespace Bk
end Bk
namespace Bk
open PySem L2 cE
structure FN (g:Fc):Prop where
 k:aI g.k=true
 as:∀a∈g.as,aI a=true
 n:g.as.length<=4
theorem FN.W3 {g:Fc} (h:FN g):g.k.length<=12:=(gk h.k).2
theorem FN.Uk {g:Fc} (h:FN g):∀a∈g.as,a.length<=12:=fun a ha=>(gk (h.as a ha)).2
theorem Bh {g:Fc} (h:FN g):(bJ g).length<=70:=by
 have z:=wM g.as h.Uk
 have q:=h.W3
 have B:=h.n
 unfold bJ
 by_cases e:g.as=[]
 ·rw [if_pos e];omega
 ·rw [if_neg e]
  simp only [aab,aal,abN]
  omega
end Bk
namespace L2
open PySem PySem.Spec PyProof.Rows Bk
end L2
namespace Bk
open PySem L2 cE
theorem N6:∀(ns:List Cs) {acc:List Cs} (x:Cs),x∈kn acc ns↔x∈acc\/(x∈ns/\great x=true)
 | [],acc,x=>by simp [kn]
 | n::ns,acc,x=>by
  show x∈kn (Cj acc n) ns↔_
  rw [N6 ns,aaK]
  have e:x∈Cj acc n↔x∈acc\/(x=n/\great x=true):=by
   unfold Cj
   split
   ·rename_i g
    split
    ·rename_i hm
     exact⟨.inl,fun z=>z.elim id fun⟨e,_⟩=>e ▸ hm⟩
    ·rw [aaq,aap]
     exact⟨fun z=>z.elim .inl fun e=>.inr ⟨e,e ▸ g⟩,fun z=>z.elim .inl fun e=>.inr e.1⟩
   ·rename_i g
    exact⟨.inl,fun z=>z.elim id fun⟨e,g'⟩=>absurd (e ▸ g') g⟩
  rw [e]
  constructor
  ·rintro((h|⟨h,g⟩)|⟨h,g⟩)
   ·exact .inl h
   ·exact .inr ⟨.inl h,g⟩
   ·exact .inr ⟨.inr h,g⟩
  ·rintro(h|⟨h|h,g⟩)
   ·exact .inl (.inl h)
   ·exact .inl (.inr ⟨h,g⟩)
   ·exact .inr ⟨h,g⟩
theorem kC {xs:List V} {k:Nat} (h:k<=xs.length):fI xs none (some (k:Int))=xs.take k:=by
 unfold fI
 have q:HT.eM xs.length 0 none=0:=rfl
 have z:HT.eM xs.length xs.length (some (k:Int))=min k xs.length:=HT.oa _ _ k
 rw [q,z,agV,Nat.sub_zero,agy h]
theorem dw {α β:Type} {R:α->β->Prop}:∀(k:Nat) {xs:List α} {ys:List β},Paired R xs ys->Paired R (xs.take k) (ys.take k)
 | 0,_,_,_=>by rw [agl,agl];exact .nil
 | _+1,_,_,.nil=>.nil
 | k+1,_,_,.cons h t=>.cons h (dw k t)
theorem mM {α β:Type} {R:α->β->Prop}:∀(k:Nat) {xs:List α} {ys:List β},Paired R xs ys->Paired R (xs.drop k) (ys.drop k)
 | 0,_,_,h=>h
 | _+1,_,_,.nil=>.nil
 | k+1,_,_,.cons _ t=>mM k t
theorem Fm (cur:Cs) (x y:List Cs):shut cur (x++y)=shut cur x++y:=by
 unfold shut
 split <;> rfl
noncomputable def QD (c:Nat) (ts:List Cs):List Cs:=if c=32 then ts else [c]::ts
theorem sO {c:Nat} (q:bu c=false) (r:Cs):∀(a cur:Cs),bY (a++c::r) cur=bY a cur++QD c (toks r)
 | [],cur=>by
  show(if bu c=true then bY r (cur++[c]) else shut cur (if c=32 then bY r [] else [c]::bY r []))=shut cur []++QD c (toks r)
  rw [q,if_neg aaZ,<- Fm,aca]
  rfl
 | d::a,cur=>by
  show(if bu d=true then bY (a++c::r) (cur++[d]) else shut cur (if d=32 then bY (a++c::r) [] else [d]::bY (a++c::r) []))=(if bu d=true then bY a (cur++[d]) else shut cur (if d=32 then bY a [] else [d]::bY a []))++_
  rw [sO q r a (cur++[d]),sO q r a []]
  by_cases hd:bu d=true
  ·rw [if_pos hd,if_pos hd]
  ·rw [if_neg hd,if_neg hd,<- Fm]
   by_cases h2:d=32
   ·rw [if_pos h2,if_pos h2]
   ·rw [if_neg h2,if_neg h2,aeR]
theorem Fn {c:Nat} (q:bu c=false) (a r:Cs):toks (a++c::r)=toks a++QD c (toks r):=sO q r a []
theorem kI (a r:Cs):toks (a++32::r)=toks a++toks r:=Fn qy a r
theorem JK {c:Nat} (q:bu c=false) (h:c≠32) (a r:Cs):toks (a++c::r)=toks a++[c]::toks r:=by
 rw [Fn q]
 unfold QD
 rw [if_neg h]
noncomputable def gO (sep:Cs):List Cs->Cs
 | []=>[]
 | [a]=>a
 | a::r=>a++(sep++gO sep r)
theorem Bi (sep:Str):∀(ls:List Str),(ahe sep ls).cps.toList=gO sep.cps.toList (ls.map fun s=>s.cps.toList)
 | []=>rfl
 | [a]=>rfl
 | a::b::r=>by
  have ih:=Bi sep (b::r)
  show((a++sep)++ahe sep (b::r)).cps.toList=_
  rw [adg,adg,ih,abH]
  rfl
theorem Cm (sep:Cs) (ls:List Cs):ait (S sep) (ls.map S)=S (gO sep ls):=by
 show ail (S sep) _=_
 rw [ahz,<- KA (ahe (S sep) (ls.map S)),Bi,abY,cz]
 have e:((fun s:Str=>s.cps.toList) ∘ S)=id:=by
  funext p
  exact cz p
 rw [e,aep]
theorem pO:∀ls,pM ls=gO [44,32] ls
 | []=>rfl
 | [a]=>rfl
 | a::b::r=>by
  show a++44::32::pM (b::r)=a++([44,32]++gO [44,32] (b::r))
  rw [pO (b::r)]
  rfl
theorem ou {c:Nat} (q:bu c=false) (h:c≠32):∀ls,toks (gO [c,32] ls)=glue [c] (ls.map toks)
 | []=>rfl
 | [a]=>rfl
 | a::b::r=>by
  show toks (a++c::32::gO [c,32] (b::r))=toks a++[c]::glue [c] ((b::r).map toks)
  rw [JK q h,ff,ou q h (b::r)]
theorem fR {p:Cs} (h:aI p=true):toks p=[p]:=by
 have z:=mK h
 have e:=d8 z.1 z.2 (r:=[]) trivial
 rw [abI] at e
 exact e
noncomputable def gP (k:Lk):Cs:=k.l++32::((if k.same=true then jn else eO)++32::k.r)
noncomputable def gQ (p:Cs × Cs):Cs:=p.1++32::61::32::p.2
theorem KR {k:Lk} (h:aI k.l=true/\aI k.r=true):toks (gP k)=jP k:=by
 unfold gP jP
 rw [kI,kI,fR h.1,fR h.2]
 cases k.same <;> rfl
theorem W4:bu 61=false:=by decide +kernel
theorem KS {p:Cs × Cs} (h:aI p.1=true/\aI p.2=true):toks (gQ p)=jQ p:=by
 unfold gQ jQ
 rw [kI,fR h.1,wj W4 (by decide),ff,fR h.2]
 rfl
noncomputable def cC (w:Cs) (m:List Cs):List Cs:=if m=[] then [] else [w++32::pM m]
noncomputable def dk (r:Rl):List Cs:=cC iE (r.take.map bJ)++(cC iF (r.keep.map bJ)++(cC gm (r.aT.map gP)++(cC mF (r.put.map bJ)++cC gn (r.tell.map gQ))))
noncomputable def cV (r:Rl):Cs:=fN++32::(r.title++58::32::gO [59,32] (dk r))
noncomputable def Si (n:Nat) (fs:List Fc):List Pr:=if fs=[] then [] else [⟨n,toks (pM (fs.map bJ)),.fs fs⟩]
noncomputable def W5 (ks:List Lk):List Pr:=if ks=[] then [] else [⟨2,glue [44] (ks.map jP),.lk ks⟩]
noncomputable def W6 (ps:List (Cs × Cs)):List Pr:=if ps=[] then [] else [⟨4,glue [44] (ps.map jQ),.pr ps⟩]
noncomputable def jW (r:Rl):List Pr:=Si 0 r.take++(Si 1 r.keep++(W5 r.aT++(Si 3 r.put++W6 r.tell)))
structure Bj (r:Rl):Prop where
 t:br r.title=true
 f:∀g∈r.take++(r.keep++r.put),FG g
 l:∀k∈r.aT,aI k.l=true/\aI k.r=true
 p:∀p∈r.tell,aI p.1=true/\aI p.2=true
 hd:r.take++r.keep≠[]
 few:r.take.length<=20/\r.keep.length<=20/\r.aT.length<=20/\r.put.length<=20/\r.tell.length<=20
theorem fS:aI iE=true/\aI iF=true/\aI gm=true/\aI mF=true/\aI gn=true/\aI fN=true/\aI jn=true/\aI eO=true:=by decide +kernel
theorem Cn {n:Nat} {w:Cs} (q:aI w=true) (e:wordAt n=w) (fs:List Fc):(cC w (fs.map bJ)).map toks=(Si n fs).map fun x=>wordAt x.n::x.ps:=by
 unfold cC Si
 by_cases h:fs=[]
 ·subst h;rfl
 ·rw [if_neg (by simpa using h),if_neg h]
  show [toks (w++32::pM (fs.map bJ))]=[wordAt n::toks (pM (fs.map bJ))]
  rw [kI,fR q,e]
  rfl
theorem QE {ks:List Lk} (hk:∀k∈ks,aI k.l=true/\aI k.r=true):(cC gm (ks.map gP)).map toks=(W5 ks).map fun x=>wordAt x.n::x.ps:=by
 unfold cC W5
 by_cases h:ks=[]
 ·subst h;rfl
 ·rw [if_neg (by simpa using h),if_neg h]
  show [toks (gm++32::pM (ks.map gP))]=[gm::glue [44] (ks.map jP)]
  have e:(ks.map gP).map toks=ks.map jP:=by
   rw [abY]
   exact aeX fun k h=>KR (hk k h)
  rw [kI,fR fS.2.2.1,pO,ou (by decide +kernel) (by decide),e]
  rfl
theorem QF {ps:List (Cs × Cs)} (q:∀p∈ps,aI p.1=true/\aI p.2=true):(cC gn (ps.map gQ)).map toks=(W6 ps).map fun x=>wordAt x.n::x.ps:=by
 unfold cC W6
 by_cases h:ps=[]
 ·subst h;rfl
 ·rw [if_neg (by simpa using h),if_neg h]
  show [toks (gn++32::pM (ps.map gQ))]=[gn::glue [44] (ps.map jQ)]
  have e:(ps.map gQ).map toks=ps.map jQ:=by
   rw [abY]
   exact aeX fun p h=>KS (q p h)
  rw [kI,fR fS.2.2.2.2.1,pO,ou (by decide +kernel) (by decide),e]
  rfl
theorem Bl {r:Rl} (h:Bj r):toks (cV r)=iG r.title (jW r):=by
 have q:=h.t
 unfold br at q
 rw [abg] at q
 unfold cV iG
 rw [kI,fR fS.2.2.2.2.2.1,JK NU (by decide),fR q.1,ff,ou Qs (by decide)]
 have e:(dk r).map toks=(jW r).map fun x=>wordAt x.n::x.ps:=by
  unfold dk jW
  rw [aau,aau,aau,aau,aau,aau,aau,aau,Cn (n:=0) fS.1 rfl,Cn (n:=1) fS.2.1 rfl,QE h.l,Cn (n:=3) fS.2.2.2.1 rfl,QF h.p]
 rw [e]
 rfl
theorem N7 (r:Rl):uW r.title (jW r)=r:=by
 obtain⟨t,a,b,c,d,e⟩:=r
 cases a <;> cases b <;> cases c <;> cases d <;> cases e <;> rfl
theorem Qg9 {m:Nat} {c:Prop} {_:Decidable c} {x:Pr} {l:List Pr} (a:Nat.ble m x.n=true) (b:Nat.ble (x.n+1) 5=true) (h:R9 (x.n+1) l):R9 m ((if c then [] else [x])++l):=by
 have a:=Nat.le_of_ble_eq_true a
 split
 ·cases l
  ·trivial
  ·exact⟨ab0 (Nat.le_succ_of_le a) h.1,h.2⟩
 ·exact⟨a,Nat.le_of_ble_eq_true b,h⟩
theorem QG (r:Rl):R9 0 (jW r):=Qg9 rfl rfl (Qg9 rfl rfl (Qg9 rfl rfl (Qg9 rfl rfl (by
 rw [<- List.append_nil (W6 _)]
 exact Qg9 rfl rfl trivial))))
noncomputable def Eg (c:Nat):Bool:=bu c || (c == 40 || (c == 41 || (c == 44 || (c == 32 || c == 61))))
theorem Sj {c:Nat} (h:Eg c=true):yY gf c=true:=by
 unfold Eg at h
 simp only [ahB,beq_iff_eq] at h
 rcases h with h|h|h|h|h|h
 ·exact NO h
 all_goals subst h;decide +kernel
theorem Ul:Eg 59=false:=by decide +kernel
theorem Um:yY gf 10=false:=by decide +kernel
theorem Uo:yY gf 35=false:=by decide +kernel
theorem Hl {f g:Nat->Bool} (h:∀c,f c=true->g c=true) {x:Cs} (q:x.all f=true):x.all g=true:=by
 rw [ab3] at q ⊢
 exact fun c z=>h c (q c z)
theorem N8 {f:Nat->Bool} {c:Nat} (h:f c=false) {x:Cs} (q:x.all f=true):c∉x:=fun z=>by
 rw [ab3] at q
 rw [q c z] at h
 cases h
theorem abW {c:Nat} (h:bu c=true):Eg c=true:=by
 unfold Eg
 rw [h]
 rfl
theorem mO {p:Cs} (h:aI p=true):p.all Eg=true:=Hl (fun _=>abW) (mK h).1
theorem sP {f:Nat->Bool} {sep:Cs} (hs:sep.all f=true):∀(ls:List Cs),(∀l∈ls,l.all f=true)->(gO sep ls).all f=true
 | [],_=>rfl
 | [a],h=>h a (aas ..)
 | a::b::r,h=>by
  have ih:=sP hs (b::r) fun l hl=>h l (aam _ hl)
  show(a++(sep++gO sep (b::r))).all f=true
  rw [abJ,abJ,h a (aas ..),hs,ih]
  rfl
theorem fq {p:Cs} (h:br p=true):aI p=true:=by
 unfold br at h
 rw [abg] at h
 exact h.1
theorem N9 {g:Fc} (h:FG g):(bJ g).all Eg=true:=by
 unfold bJ
 have hk:=mO (fq h.k)
 split
 ·exact hk
 ·rw [abJ,abJ,abJ,hk,Bf (by decide +kernel) _ fun l hl=>mO (h.as l hl)]
  decide +kernel
theorem Up {k:Lk} (h:aI k.l=true/\aI k.r=true):(gP k).all Eg=true:=by
 unfold gP
 rw [abJ,ab6,abJ,ab6,mO h.1,mO h.2]
 cases k.same <;> decide +kernel
theorem Uq {k:Cs × Cs} (h:aI k.1=true/\aI k.2=true):(gQ k).all Eg=true:=by
 unfold gQ
 rw [abJ,ab6,ab6,ab6,mO h.1,mO h.2]
 decide +kernel
theorem Sk {ls:List Cs} (h:∀l∈ls,l.all Eg=true):(pM ls).all Eg=true:=by
 rw [pO]
 exact sP (by decide +kernel) ls h
theorem wO {w:Cs} (q:aI w=true) {m:List Cs} (h:∀l∈m,l.all Eg=true):∀l∈cC w m,l.all Eg=true:=by
 unfold cC
 split
 ·intro l hl;cases hl
 ·intro l hl
  rw [aap.mp hl,abJ,ab6,mO q,Sk h]
  decide +kernel
theorem Bj.parts {r:Rl} (h:Bj r):∀l∈dk r,l.all Eg=true:=by
 have z:∀fs:List Fc,(∀g∈fs,g∈r.take++(r.keep++r.put))->∀l∈fs.map bJ,l.all Eg=true:=fun fs hs l hl=>by
  obtain⟨g,q,rfl⟩:=aaw.mp hl
  exact N9 (h.f g (hs g q))
 intro l hl
 unfold dk at hl
 simp only [aaq] at hl
 rcases hl with hl|hl|hl|hl|hl
 ·exact wO fS.1 (z _ fun g q=>aax _ q) l hl
 ·exact wO fS.2.1 (z _ fun g q=>aak _ (aax _ q)) l hl
 ·refine wO fS.2.2.1 (fun l hl=>?_) l hl
  obtain⟨g,q,rfl⟩:=aaw.mp hl
  exact Up (h.l g q)
 ·exact wO fS.2.2.2.1 (z _ fun g q=>aak _ (aak _ q)) l hl
 ·refine wO fS.2.2.2.2.1 (fun l hl=>?_) l hl
  obtain⟨g,q,rfl⟩:=aaw.mp hl
  exact Uq (h.p g q)
theorem QH {r:Rl} (h:Bj r):(cV r).all (yY gf)=true:=by
 have z:fN.all (yY gf)=true:=by decide +kernel
 have q:yY gf 32=true:=by decide +kernel
 have B:yY gf 58=true:=by decide +kernel
 unfold cV
 rw [abJ,z,ab6,q,abJ,ab6,ab6,q,B,Hl (fun _=>Sj) (mO (fq h.t)),sP (f:=yY gf) (by decide +kernel) _ fun l hl=>Hl (fun _=>Sj) (h.parts l hl)]
 rfl
theorem Co {m:Cs}:∀(qs:List (List Cs)) (x:Cs),x∈glue m qs->x=m\/∃q∈qs,x∈q
 | [],_,h=>by cases h
 | [q],x,h=>.inr ⟨q,aas ..,h⟩
 | q::a::r,x,h=>by
  have h:x∈q++m::glue m (a::r):=h
  rcases aaq.mp h with h|h
  ·exact .inr ⟨q,aas ..,h⟩
  ·rcases aaK.mp h with h|h
   ·exact .inl h
   ·rcases Co (a::r) x h with h|⟨p,z,h⟩
    ·exact .inl h
    ·exact .inr ⟨p,aam _ z,h⟩
theorem vH {p:Cs} (h:aI p=true):[59]≠p:=fun e=>by
 rw [<- e] at h
 exact absurd h (by decide +kernel)
theorem Bj.rule {r:Rl} (h:Bj r):Jv r.title (jW r):=by
 have J:∀n (fs:List Fc),(∀g∈fs,FG g)->(n=0\/n=1\/n=3)->∀x∈Si n fs,mG x.n x.ps x.p/\[59]∉x.ps:=fun n fs O hn x B=>by
  unfold Si at B
  split at B
  ·cases B
  ·rename_i h0
   rw [aap.mp B]
   refine⟨.fs hn (Fi fs h0 O),fun G=>?_⟩
   have z:=oq (pM (fs.map bJ)) [] [59] G 59 (aap.mpr rfl)
   rcases z with z|z
   ·refine N8 Ul (Sk fun l hl=>?_) z
    obtain⟨g,F,rfl⟩:=aaw.mp hl
    exact N9 (O g F)
   ·cases z
 have all:∀x∈jW r,mG x.n x.ps x.p/\[59]∉x.ps:=fun x B=>by
  unfold jW at B
  simp only [aaq] at B
  rcases B with B|B|B|B|B
  ·exact J 0 _ (fun g F=>h.f g (aax _ F)) (.inl rfl) x B
  ·exact J 1 _ (fun g F=>h.f g (aak _ (aax _ F))) (.inr (.inl rfl)) x B
  ·unfold W5 at B
   split at B
   ·cases B
   ·rename_i h0
    rw [aap.mp B]
    refine⟨.lk h0 (by have:=h.few.2.2.1;omega) h.l,fun G=>?_⟩
    rcases Co _ _ G with e|⟨q,L,e⟩
    ·exact absurd e (by decide)
    ·obtain⟨k,hk,rfl⟩:=aaw.mp L
     unfold jP at e
     have hk:=h.l k hk
     simp only [aaK,List.mem_nil_iff,or_false] at e
     rcases e with e|e|e
     ·exact vH hk.1 e
     ·cases hs:k.same with
      | true=>rw [hs] at e;exact absurd e (by decide)
      | false=>rw [hs] at e;exact absurd e (by decide)
     ·exact vH hk.2 e
  ·exact J 3 _ (fun g F=>h.f g (aak _ (aak _ F))) (.inr (.inr rfl)) x B
  ·unfold W6 at B
   split at B
   ·cases B
   ·rename_i h0
    rw [aap.mp B]
    refine⟨.pr h0 (by have:=h.few.2.2.2.2;omega) h.p,fun G=>?_⟩
    rcases Co _ _ G with e|⟨q,L,e⟩
    ·exact absurd e (by decide)
    ·obtain⟨k,hk,rfl⟩:=aaw.mp L
     unfold jQ at e
     have hk:=h.p k hk
     simp only [aaK,List.mem_nil_iff,or_false] at e
     rcases e with e|e|e
     ·exact vH hk.1 e
     ·exact absurd e (by decide)
     ·exact vH hk.2 e
 have Ur:∃x∈jW r,x.n=0\/x.n=1:=by
  have hd:=h.hd
  unfold jW
  cases V:r.take with
  | cons a t=>exact⟨_,aax _ (aap.mpr rfl),.inl rfl⟩
  | nil =>
   cases Y:r.keep with
   | cons a t=>exact⟨_,aak _ (aax _ (aap.mpr rfl)),.inr rfl⟩
   | nil=>rw [V,Y] at hd;exact absurd rfl hd
 refine⟨h.t,fun e=>?_,QG r,fun x B=>(all x B).1,Ur,fun x B=>(all x B).2⟩
 obtain⟨x,B,_⟩:=Ur
 rw [e] at B
 cases B
theorem QI {x:Cs} (h:x.all (yY gf)=true) (B:toks x≠[]):told x=true:=by
 have go:∀y:Cs,y.all (yY gf)=true->toks y≠[]->∃c r,y.dropWhile (· == 32)=c::r/\c≠35:=by
  intro y
  induction y with
  | nil=>intro _ h;exact absurd rfl h
  | cons c r ih =>
   intro z Eb
   rw [ab6,abg] at z
   by_cases q:c=32
   ·subst q
    rw [ff] at Eb
    rw [aeW,if_pos (by decide)]
    exact ih z.2 Eb
   ·rw [aeW,if_neg (by simpa using q)]
    refine⟨c,r,rfl,fun e=>?_⟩
    rw [e,Uo] at z
    exact absurd z.1 (by decide)
 obtain⟨c,r,e,q⟩:=go x h B
 unfold told
 rw [e]
 simpa using q
end Bk
namespace L2
open PySem PySem.Spec PyProof.Rows
section
variable {X:Cx} {k:Nat} {m:Str} {pos apos:Pos} {o:Expr} {ta:TE}
def Us (P:abn) (w:abU) (K:aaa) (mg:Str->Option aae) (base:Heap) (m:Str) (k:Nat) (ta:TE) (t:TA):TE:=fun σ H Q=>ta σ H fun x H1=>∃a C dx fs ps sp,x=.ref a/\H1 a=some (.ins C dx fs)/\fs.lookup m=none /\
 Met P w K mg base C m k ps sp/\t σ H1 fun vs U=>sp (x::vs) U Q E0
end
end L2
namespace Bk
open PySem L2 cE
noncomputable def gg (b:Bool):Cs:=if b=true then jn else eO
theorem FG.fn {g:Fc} (h:FG g):FN g:=⟨fq h.k,h.as,h.n⟩
theorem il {p:Cs} (h:aI p=true):p.length<=12:=by
 unfold aI at h
 simp only [abg,decide_eq_true_eq] at h
 omega
theorem JL {k:Lk} (h:aI k.l=true/\aI k.r=true):(gP k).length<=32:=by
 have h1:=il h.1
 have h2:=il h.2
 have q:(if k.same=true then jn else eO).length<=6:=by cases k.same <;> decide
 unfold gP
 simp only [aab,aal]
 omega
theorem JM {k:Cs × Cs} (h:aI k.1=true/\aI k.2=true):(gQ k).length<=32:=by
 have h1:=il h.1
 have h2:=il h.2
 unfold gQ
 simp only [aab,aal]
 omega
theorem Oa {ls:List Cs} {B:Nat} (h:∀l∈ls,l.length<=B):(pM ls).length<=ls.length * (B+2):=by
 rw [pO]
 induction ls with
 | nil=>simp [gO]
 | cons a r ih =>
  have ha:=h a (aas ..)
  have ih:=ih fun l hl=>h l (aam _ hl)
  cases r with
  | nil=>show a.length<=1 * (B+2);omega
  | cons b t =>
   show(a++([44,32]++gO [44,32] (b::t))).length<=((b::t).length+1) * (B+2)
   rw [aab,aab,ah0]
   simp only [aal,abN] at ih ⊢
   omega
theorem sT {B:Nat}:∀(ls:List Cs),(∀l∈ls,l.length<=B)->(gO [59,32] ls).length<=ls.length * (B+2)
 | [],_=>by simp [gO]
 | [a],h=>by
  have:=h a (aas ..)
  show a.length<=1 * (B+2)
  omega
 | a::b::r,h=>by
  have ih:=sT (b::r) fun l hl=>h l (aam _ hl)
  have ha:=h a (aas ..)
  show(a++([59,32]++gO [59,32] (b::r))).length<=((b::r).length+1) * (B+2)
  rw [aab,aab,ah0]
  simp only [aal,abN] at ih ⊢
  omega
theorem eV (w:Cs) (m:List Cs):(cC w m).length<=1:=by
 unfold cC
 split <;> simp
structure KG (ks:List Kd):Prop where
 len:ks.length=4
 nd:(ks.map (·.n)).Nodup
 ok:∀k∈ks,br k.n=true/\k.c<=4
 yes:∃k∈ks,k.l=true
 no:∃k∈ks,k.l=false
def Bm (ks:List Kd) (ns:List Cs) (f:Fc):Prop:=(∃k∈ks,f.k=k.n/\f.as.length=k.c)/\∀a∈f.as,a∈ns
def Cp (K:aaa) (H:Hp) (l:aay) (ps:List (Cs × Cs)):Prop:=∃vs,H l=some (.lst vs)/\Paired (Pair K H) ps vs
theorem Cp.sm {K:aaa} {H H':Hp} (s:ah H H') {l:aay} {ks:List (Cs × Cs)} (h:Cp K H l ks):Cp K H' l ks:=by
 obtain⟨vs,h1,h2⟩:=h
 exact⟨vs,s _ _ h1,dU h2 fun _ _ _ ⟨t,e,z⟩=>⟨t,e,z.same s⟩⟩
noncomputable def Po (k:Kd):Bool:=!k.l
structure QJ (ks:List Kd) (os ws:List Cs) (r:Rl):Prop where
 take:∀f∈r.take,Bm (ks.filter Po) (os++ws) f
 keep:∀f∈r.keep,Bm ks (os++ws) f
 put:∀f∈r.put,Bm (if r.take=[] then ks.filter (·.l) else ks) (opens (r.take++r.keep)++ws) f
 aT:∀k∈r.aT,k.l∈opens (r.take++r.keep)++ws/\k.r∈opens (r.take++r.keep)++ws
 tell:∀p∈r.tell,p.1∈opens (r.take++r.keep)++ws/\p.2∈opens (r.take++r.keep)++ws
 hd:1<=r.take.length+r.keep.length
 few:r.take.length<=4/\r.keep.length<=4/\r.aT.length<=4/\r.put.length<=4/\r.tell.length<=4
def Sl (m:Nat) (r:Rl):Prop:=r.take.length<=m/\r.keep.length<=m/\r.aT.length<=m/\r.put.length<=m/\r.tell.length<=m
theorem Hm {fs:List Fc} (h:∀g∈fs,g.as.length<=4) (h2:fs.length<=8) (hk:kn [] (fs.flatMap (·.as))=opens fs):(opens fs).length<=32:=by
 have z:=Ck (fs.flatMap (·.as)) []
 rw [hk] at z
 have e:(fs.flatMap (·.as)).length<=4 * fs.length:=by
  clear z hk h2
  induction fs with
  | nil=>simp
  | cons a r ih =>
   have h1:=h a (aas ..)
   have ih:=ih fun g q=>h g (aam _ q)
   rw [ad1,aab,aal]
   omega
 simp only [abN] at z
 omega
noncomputable def dR (r:Rl) (t:Cs):Rl:={ r with title:=t }
theorem wQ {fs:List Fc} {a:Cs} (hk:kn [] (fs.flatMap (·.as))=opens fs) (h:a∈opens fs):(∃f∈fs,a∈f.as)/\great a=true:=by
 rw [<- hk] at h
 rcases(N6 _ a).mp h with h|⟨h,g⟩
 ·cases h
 ·obtain⟨f,q,h⟩:=List.mem_flatMap.mp h
  exact⟨⟨f,q,h⟩,g⟩
section
variable {ks:List Kd} {os ws:List Cs} {r:Rl} {t:Cs}
theorem QJ.names (F:KG ks) (q:∀n∈os++ws,aI n=true) (d:QJ ks os ws r) (hk:kn [] ((r.take++r.keep).flatMap (·.as))=opens (r.take++r.keep)):∀n∈opens (r.take++r.keep)++ws,aI n=true:=fun n hn=>by
 rcases aaq.mp hn with h|h
 ·obtain⟨⟨f,B,ha⟩,_⟩:=wQ hk h
  rcases aaq.mp B with z|z
  ·exact q n ((d.take f z).2 n ha)
  ·exact q n ((d.keep f z).2 n ha)
 ·exact q n (aak _ h)
theorem Bm.fg {ks Fo:List Kd} {ns:List Cs} {f:Fc} (F:KG ks) (hs:∀k∈Fo,k∈ks) (G:∀n∈ns,aI n=true) (h:Bm Fo ns f):FG f:=by
 obtain⟨⟨k,hk,q,B⟩,ha⟩:=h
 have z:=F.ok k (hs k hk)
 exact⟨by rw [q];exact z.1,fun a h=>G a (ha a h),by rw [B];exact z.2⟩
theorem wR {p:Prop} [Decidable p]:∀k∈(if p then ks.filter (·.l) else ks),k∈ks:=fun k hk=>by
 split at hk
 ·exact(ab1.mp hk).1
 ·exact hk
theorem QJ.Pp (q:KG ks) (B:∀n∈os++ws,aI n=true) (G:br t=true) (d:QJ ks os ws r) (hk:kn [] ((r.take++r.keep).flatMap (·.as))=opens (r.take++r.keep)):Bj (dR r t):=by
 have Ob:=d.names q B hk
 refine⟨G,fun g F=>?_,fun k hk=>⟨Ob _ (d.aT k hk).1,Ob _ (d.aT k hk).2⟩,fun k hk=>⟨Ob _ (d.tell k hk).1,Ob _ (d.tell k hk).2⟩,fun e=>?_,?_⟩
 ·rcases aaq.mp F with z|z
  ·exact(d.take g z).fg q (fun k hk=>(ab1.mp hk).1) B
  ·rcases aaq.mp z with z|z
   ·exact(d.keep g z).fg q (fun k hk=>hk) B
   ·exact(d.put g z).fg q wR Ob
 ·have:=d.hd
  have z:=congrArg adO e
  rw [aab] at z
  have z:r.take.length+r.keep.length=0:=z
  omega
 ·have:=d.few
  show r.take.length<=20/\r.keep.length<=20/\r.aT.length<=20/\r.put.length<=20/\r.tell.length<=20
  omega
theorem QK (B:KG ks) {k:Kd} (hk:k∈ks) (hl:k.l=false):k.n∉(ks.filter (·.l)).map (·.n):=fun h=>by
 obtain⟨k2,q,e⟩:=aaw.mp h
 obtain⟨h2,l2⟩:=ab1.mp q
 have:k2=k:=by
  have nd:=B.nd
  clear h B q
  induction ks with
  | nil=>cases hk
  | cons a r ih =>
   rw [abw,ac6] at nd
   rcases aaK.mp hk with z|z <;> rcases aaK.mp h2 with y|y
   ·rw [y,z]
   ·subst z
    exact absurd (by rw [<- e];exact adh y) nd.1
   ·subst y
    exact absurd (by rw [e];exact adh z) nd.1
   ·exact ih z y nd.2
 rw [this,hl] at l2
 cases l2
theorem QJ.good (J:KG ks) (O:∀n∈os++ws,aI n=true) (V:∀n∈ws,great n=false) (d:QJ ks os ws r) (hk:kn [] ((r.take++r.keep).flatMap (·.as))=opens (r.take++r.keep)):wz ks (dR r t):=by
 have Ob:=d.names J O hk
 have G:∀a∈dW (dR r t),a∈opens (r.take++r.keep)++ws:=fun a ha=>by
  unfold dW at ha
  simp only [aaq,List.mem_flatMap] at ha
  rcases ha with⟨k,hk,h⟩|⟨f,q,h⟩|⟨p,B,h⟩
  ·rcases aaK.mp h with e|e
   ·rw [e];exact(d.aT k hk).1
   ·rw [aap.mp e];exact(d.aT k hk).2
  ·exact(d.put f q).2 a h
  ·rcases aaK.mp h with e|e
   ·rw [e];exact(d.tell p B).1
   ·rw [aap.mp e];exact(d.tell p B).2
 refine⟨fun f q=>?_,fun f q=>?_,fun e f q=>?_,fun a ha g=>?_,fun a ha=>Ob a (G a ha),?_,?_⟩
 ·have fit:∀{Fo} {ns:List Cs},(∀k∈Fo,k∈ks)->Bm Fo ns f->wx ks f:=fun hs h=>by
   obtain⟨⟨k,hk,F,L⟩,_⟩:=h
   exact⟨k,hs k hk,F.symm,L⟩
  rcases aaq.mp q with z|z
  ·rcases aaq.mp z with z|z
   ·exact fit (fun k hk=>(ab1.mp hk).1) (d.take f z)
   ·exact fit (fun k hk=>hk) (d.keep f z)
  ·exact fit wR (d.put f z)
 ·obtain⟨⟨k,hk,F,_⟩,_⟩:=d.take f q
  obtain⟨hk,B⟩:=ab1.mp hk
  rw [F]
  refine QK J hk ?_
  unfold Po at B
  simpa using B
 ·have e:r.take=[]:=e
  obtain⟨⟨k,hk,F,_⟩,_⟩:=d.put f q
  rw [if_pos e] at hk
  rw [F]
  exact adh hk
 ·rcases aaq.mp (G a ha) with z|z
  ·exact z
  ·rw [V a z] at g
   cases g
 ·have few:=d.few
  have Z:(r.put.flatMap (·.as)).length<=4 * r.put.length:=by
   have B:∀f∈r.put,f.as.length<=4:=fun f q=>((d.put f q).fg J wR Ob).n
   generalize r.put=l at B
   induction l with
   | nil=>simp
   | cons a s ih =>
    have h1:=B a (aas ..)
    have ih:=ih fun g Y=>B g (aam _ Y)
    rw [ad1,aab,aal]
    omega
  have two:∀{α:Type} (l:List α) (x y:α->Cs),(l.flatMap fun k=>[x k,y k]).length=2 * l.length:=fun l x y=>by
   induction l with
   | nil=>rfl
   | cons a s ih=>rw [ad1,aab,ih];simp;omega
  unfold dW
  rw [aab,aab]
  have F:=two r.aT (·.l) (·.r)
  have L:=two r.tell (·.1) (·.2)
  show(r.aT.flatMap fun k=>[k.l,k.r]).length+((r.put.flatMap (·.as)).length+(r.tell.flatMap fun p=>[p.1,p.2]).length)<=20000
  omega
 ·have few:=d.few
  show(r.take++r.keep++r.put).length<=20000
  rw [aab,aab]
  omega
end
theorem Bj.abX {r:Rl} (h:Bj r):Qo r:=by
 have few:=h.few
 have q:∀f∈r.take++r.keep,FG f:=fun f q=>h.f f (by
  rcases aaq.mp q with z|z
  ·exact aax _ z
  ·exact aak _ (aax _ z))
 refine⟨fun f B=>?_,by rw [aab];omega,?_⟩
 ·have z:=q f B
  exact⟨z.k,by have:=z.n;omega,z.as⟩
 ·have hl:(r.take++r.keep).length<=40:=by rw [aab];omega
  generalize r.take++r.keep=l at q hl
  have z:(l.flatMap (·.as)).length<=4 * l.length:=by
   clear hl
   induction l with
   | nil=>simp
   | cons a s ih =>
    have h1:=(q a (aas ..)).n
    have ih:=ih fun g F=>q g (aam _ F)
    rw [ad1,aab,aal]
    omega
  omega
theorem QL {r:Rl} (h:Bj r):toks (cV r)≠[]:=by
 rw [Bl h]
 unfold iG
 simp
theorem KU {k:Kd} (h:br k.n=true/\k.c<=4):(aZ k).all (yY gf)=true/\toks (aZ k)=wm k/\told (aZ k)=true/\10∉aZ k:=by
 rw [Ha]
 exact⟨A7 (by decide +kernel) (fun c h=>NO h) h.1 h.2,Hb h.1 h.2 (by decide) (by decide),Hc,NP h.1 h.2⟩
end Bk
namespace L2
open PySem PySem.Spec PyProof.Rows
end L2
namespace Bk
open PySem L2 cE
theorem W7 {fs:List Fc} (h:∀g∈fs,g.as.length<=4):(fs.flatMap (·.as)).length<=4 * fs.length:=by
 induction fs with
 | nil=>simp
 | cons a s ih =>
  have h1:=h a (aas ..)
  have ih:=ih fun g q=>h g (aam _ q)
  rw [ad1,aab,aal]
  omega
end Bk
namespace L2
open PySem
end L2
namespace Bk
open PySem L2 cE
end Bk
namespace L2
open PySem PySem.Spec PyProof.Rows
section
variable {X:Cx} {st:Stmt} {a9:List Stmt} {t u:TS} {pos:Pos}
end
section
variable {X:Cx} {k:Nat} {ps:List Str} {sp:Sp} {x:Str} {p pos:Pos} {e:Expr} {es:List Expr} {t:TA} {f:aay} {fd:abZ} {ds:List aae} {pD:List V} {CX:Kl} {E:XK}
end
section
variable {X:Cx} {k:Nat} {ps:List Str} {sp:Sp} {x:Str} {p pos:Pos} {e:Expr} {es:List Expr} {t:TA} {te:TE}
end
section
variable {X:Cx} {e:Expr} {es:List Expr} {te:TE} {t:TA} {pos:Pos}
end
end L2
namespace Bk
open PySem L2 cE
theorem eX {w:Cs} {m:List Cs} {M:Nat} (q:w.length<=4) (hm:m.length<=M) (hl:∀l∈m,l.length<=70):∀l∈cC w m,l.length<=12+72 * M:=by
 have z:=Oa hl
 have B:m.length * (70+2)<=M * 72:=ac9 _ hm
 unfold cC
 split
 ·intro l hl;cases hl
 ·intro l hl
  rw [aap.mp hl,aab,aal]
  omega
theorem Bj.Ut {r:Rl} {M:Nat} (h:Bj r) (B:Sl M r):(cV r).length<=5 * (14+72 * M)+20:=by
 have F:∀fs:List Fc,(∀g∈fs,g∈r.take++(r.keep++r.put))->∀l∈fs.map bJ,l.length<=70:=fun fs hs l hl=>by
  obtain⟨g,q,rfl⟩:=aaw.mp hl
  exact Bh (h.f g (hs g q)).fn
 have G:∀l∈dk r,l.length<=12+72 * M:=fun l hl=>by
  unfold dk at hl
  simp only [aaq] at hl
  rcases hl with hl|hl|hl|hl|hl
  ·exact eX (by decide) (by rw [Lm9];exact B.1) (F _ fun g q=>aax _ q) l hl
  ·exact eX (by decide) (by rw [Lm9];exact B.2.1) (F _ fun g q=>aak _ (aax _ q)) l hl
  ·refine eX (by decide) (by rw [Lm9];exact B.2.2.1) (fun l hl=>?_) l hl
   obtain⟨g,q,rfl⟩:=aaw.mp hl
   have:=JL (h.l g q)
   omega
  ·exact eX (by decide) (by rw [Lm9];exact B.2.2.2.1) (F _ fun g q=>aak _ (aak _ q)) l hl
  ·refine eX (by decide) (by rw [Lm9];exact B.2.2.2.2) (fun l hl=>?_) l hl
   obtain⟨g,q,rfl⟩:=aaw.mp hl
   have:=JM (h.p g q)
   omega
 have hn:(dk r).length<=5:=by
  have p1:=eV iE (r.take.map bJ)
  have p2:=eV iF (r.keep.map bJ)
  have p3:=eV gm (r.aT.map gP)
  have L:=eV mF (r.put.map bJ)
  have O:=eV gn (r.tell.map gQ)
  unfold dk
  simp only [aab]
  omega
 have z:=sT _ G
 have J:=il (fq h.t)
 have e:fN.length=4:=rfl
 unfold cV
 rw [aab,e]
 simp only [aab,aal]
 have:(dk r).length * (12+72 * M+2)<=5 * (12+72 * M+2):=ac9 _ hn
 omega
inductive Mt where
 | k (k:Kd)
 | r (r:Rl)
noncomputable def Mt.txt:Mt->Cs
 | .k x=>aZ x
 | .r x=>cV x
noncomputable def Mt.it:Mt->It
 | .k x=>.kind x
 | .r x=>.rule x.title (jW x)
def Mt.Ok:Mt->Prop
 | .k x=>br x.n=true/\x.c<=4
 | .r x=>Bj x
theorem Mt.line {m:Mt} (h:m.Ok):m.txt.all (yY gf)=true/\toks m.txt=m.it.ps/\WL m.it/\toks m.txt≠[]:=by
 cases m with
 | k k =>
  obtain⟨z,q,_,_⟩:=KU h
  refine⟨z,q,h,?_⟩
  show toks (aZ k)≠[]
  rw [q]
  unfold wm
  simp
 | r r =>
  have h:Bj r:=h
  refine⟨QH h,Bl h,⟨h.rule,?_⟩,QL h⟩
  rw [N7]
  exact h.abX
noncomputable def Oc (f:Bool) (ks:List Kd) (rs:List Rl):List Mt:=if f=true then rs.map Mt.r++ks.map Mt.k else ks.map Mt.k++rs.map Mt.r
theorem Uu (f:Bool) (ks:List Kd) (rs:List Rl):jR ((Oc f ks rs).map Mt.it)=ks/\jS ((Oc f ks rs).map Mt.it)=rs:=by
 have k1:∀ks:List Kd,jR ((ks.map Mt.k).map Mt.it)=ks/\jS ((ks.map Mt.k).map Mt.it)=[]:=fun ks=>by
  induction ks with
  | nil=>exact⟨rfl,rfl⟩
  | cons a r ih =>
   refine⟨?_,ih.2⟩
   show a::jR _=a::r
   rw [ih.1]
 have q:∀rs:List Rl,jR ((rs.map Mt.r).map Mt.it)=[]/\jS ((rs.map Mt.r).map Mt.it)=rs:=fun rs=>by
  induction rs with
  | nil=>exact⟨rfl,rfl⟩
  | cons a r ih =>
   refine⟨ih.1,?_⟩
   show uW a.title (jW a)::jS _=a::r
   rw [N7,ih.2]
 unfold Oc
 cases f with
 | true=>rw [if_pos rfl,aau,jT,jU,(k1 ks).1,(k1 ks).2,(q rs).1,(q rs).2,abI];exact⟨rfl,rfl⟩
 | false=>rw [if_neg (by decide),aau,jT,jU,(k1 ks).1,(k1 ks).2,(q rs).1,(q rs).2,abI];exact⟨rfl,rfl⟩
theorem Od {f:Bool} {ks:List Kd} {rs:List Rl} (q:KG ks) (z:∀r∈rs,Bj r):∀m∈Oc f ks rs,m.Ok:=fun m hm=>by
 have hm:m∈ks.map Mt.k\/m∈rs.map Mt.r:=by
  unfold Oc at hm
  split at hm
  ·exact(aaq.mp hm).symm
  ·exact aaq.mp hm
 rcases hm with hm|hm
 ·obtain⟨k,hk,rfl⟩:=aaw.mp hm
  exact q.ok k hk
 ·obtain⟨r,hr,rfl⟩:=aaw.mp hm
  exact z r hr
def Zy (xs:List Mt) (ls:List Cs):Prop:=∃its:List (Cs × It),its.map (·.2)=xs.map Mt.it/\ls.filter told=its.map (·.1)/\(∀x∈its,x.1.all (yY gf)=true/\toks x.1=x.2.ps)/\∀l∈ls,10∉l
theorem Uv {f:Bool} {ks:List Kd} {rs:List Rl} {ls:List Cs} (h:Zy (Oc f ks rs) ls) (F:KG ks) (L:∀r∈rs,Bj r/\wz ks r) (hn:(rs.map (·.title)).Nodup) (V:rs.length<=6) :
  ∃its,NL ls its/\jR (its.map (·.2))=ks/\jS (its.map (·.2))=rs:=by
 obtain⟨its,h1,h2,J,_⟩:=h
 obtain⟨q,B⟩:=Uu f ks rs
 rw [<- h1] at q B
 refine⟨its,⟨h2,fun x G=>⟨(J x G).1,(J x G).2,?_⟩,by rw [q];exact F.nd,by rw [B];exact hn,fun r hr=>?_,?_⟩,q,B⟩
 ·have z:x.2∈(Oc f ks rs).map Mt.it:=by rw [<- h1];exact adh G
  obtain⟨m,hm,e⟩:=aaw.mp z
  rw [<- e]
  exact(Mt.line (Od F (fun r hr=>(L r hr).1) m hm)).2.2.1
 ·rw [B] at hr
  rw [q]
  exact(L r hr).2
 ·have z:=congrArg adO h1
  have O:=F.len
  rw [Lm9,Lm9] at z
  unfold Oc at z
  split at z <;> rw [aab,Lm9,Lm9] at z <;> omega
theorem Zy.Uw {xs:List Mt} {ls:List Cs} (h:Zy xs ls):∀l∈ls,10∉l:=by
 obtain⟨_,_,_,_,h⟩:=h
 exact h
theorem Bn:∀(ls:List Cs),(dh ls).length<=(ls.map adO).sum+ls.length
 | []=>aar _
 | [a]=>by show a.length<=_;simp
 | a::b::r=>by
  have z:=Bn (b::r)
  show(a++10::dh (b::r)).length<=_
  rw [aab,aal,abw,aic,aal]
  omega
theorem KG.QM {ks Fo:List Kd} (q:KG ks) (p:Fo.Perm ks):KG Fo:=by
 refine⟨by rw [p.length_eq];exact q.len,(p.map _).nodup_iff.mpr q.nd,fun k hk=>q.ok k (p.mem_iff.mp hk),?_,?_⟩
 ·obtain⟨k,hk,e⟩:=q.yes
  exact⟨k,p.mem_iff.mpr hk,e⟩
 ·obtain⟨k,hk,e⟩:=q.no
  exact⟨k,p.mem_iff.mpr hk,e⟩
theorem Oe {α:Type} (n:Nat) (l:List α):(l.drop n++l.take n).Perm l :=
 List.perm_append_comm.trans (by rw [aeq])
end Bk
namespace L2
open PySem PySem.Spec PyProof.Rows
section
variable {X:Cx} {pins:List (aay × Obj)} {σ:St} {H:Hp} {s:aah}
theorem Hn (I:Inv X pins σ H s) (hu:X.A.units+64<cLine) {ys:List V} {its:List aae} {ts:List Tr} {l:List Tr} {x:V} {v:aae} (r:Vals ys its) (T:Ts X.K H ts ys) (hd:jm X.K H (Tr.tup l).toD x) (rx:RelV x v) (Fe:∀t∈ts,(∃q,t=.tup q)/\t.toD.deep<=8) :
  ∃e:aae->Bool,(∀w∈its,adS X.A.in1 s w v (e w))/\its.map e=ts.map fun a=>eqT a (.tup l):=by
 obtain⟨hl,B⟩:=T
 have hlen:=r.length
 have at_:∀i (hi:i<its.length),∃a,ys[i]'(by omega)=.ref a/\its[i]=.ref a:=fun i hi=>by
  obtain⟨J,f1,q1⟩:=r.get (i:=i) (x:=ys[i]'(by omega)) (by simp)
  have G:its[i]=J:=(aaf.mp f1).2
  obtain⟨⟨qq,eq⟩,_⟩:=Fe _ (aan (show i<ts.length by omega))
  have z:=B i (by omega) (by omega)
  rw [eq] at z
  obtain⟨a,_,_,L,_⟩:=Ci I z q1
  have hy:ys[i]'(by omega)=.ref a:=by
   simp only [Tr.toD] at z
   cases WZ:ys[i]'(by omega) with
   | ref b=>rw [WZ] at q1;cases q1;cases L;rfl
   | _=>rw [WZ] at z;cases z
  exact⟨a,hy,by rw [G,L]⟩
 have uni:∀i j (hi:i<its.length) (F:j<its.length),its[i]=its[j]->ts[i]'(by omega)=ts[j]'(by omega):=fun i j hi F e=>by
  obtain⟨a,ya,ia⟩:=at_ i hi
  obtain⟨b,yb,ib⟩:=at_ j F
  rw [ia,ib] at e
  have e:a=b:=by injection e
  subst e
  have Z:=B i (by omega) (by omega)
  have z2:=B j (by omega) (by omega)
  rw [ya] at Z
  rw [yb] at z2
  exact qK (vV I rfl 8 (Fe _ (aan (show i<ts.length by omega))).2 Z z2)
 classical
 let e:aae->Bool:=fun w=>decide (∃i,∃hi:i<its.length,its[i]=w/\eqT (ts[i]'(by omega)) (.tup l)=true)
 have O:∀i (hi:i<its.length),e its[i]=eqT (ts[i]'(by omega)) (.tup l):=fun i hi=>by
  cases Y:eqT (ts[i]'(by omega)) (.tup l) with
  | true=>exact decide_eq_true ⟨i,hi,rfl,Y⟩
  | false =>
   refine decide_eq_false ?_
   rintro⟨j,F,ej,tj⟩
   rw [uni j i F hi ej,Y] at tj
   cases tj
 refine⟨e,fun w hw=>?_,?_⟩
 ·obtain⟨i,hi,rfl⟩:=ahJ.mp hw
  rw [O i hi]
  obtain⟨J,f1,q1⟩:=r.get (i:=i) (x:=ys[i]'(by omega)) (by simp)
  have G:its[i]=J:=(aaf.mp f1).2
  rw [G]
  exact vW I rfl 8 X.A.in1 (Fe _ (aan (show i<ts.length by omega))).2 (by show X.A.units+1+8<cLine;omega) (B i (by omega) (by omega)) hd q1 rx
 ·apply agr (by simp;omega)
  intro i h1 h2
  rw [aaO,aaO]
  exact O i (by simpa using h1)
theorem Ho {α β:Type} {l:List α} {k:List β} {f:α->Bool} {g:β->Bool} (h:l.map f=k.map g):l.any f=k.any g:=by
 have q:∀{α:Type} (l:List α) (f:α->Bool),l.any f=(l.map f).any id:=fun l f=>by rw [agQ];rfl
 rw [q,h,<- q]
theorem qM {α β:Type} {l:List α} {k:List β} {f:α->Bool} {g:β->Bool} (h:l.map f=k.map g):l.countP f=k.countP g:=by
 have q:∀{α:Type} (l:List α) (f:α->Bool),l.countP f=(l.map f).countP id:=fun l f=>by rw [List.countP_map];rfl
 rw [q,h,<- q]
def wV (K:aaa):R2:=fun x y H Q=>∃p ys ts l,y=.ref p/\bH K H p ys/\Ts K H ts ys/\jm K H (Tr.tup l).toD x/\(Tr.tup l).toD.deep<=8/\(∀t∈ts,(∃q,t=.tup q)/\t.toD.deep<=8)/\Q (.bl (!(ts.any fun a=>eqT a (.tup l)))) H
theorem kJ (J:X.A.units+64<cLine):qc X (compareOp .NotIn) (wV X.K):=by
 intro pins s σ H x y v u Q I rx ry h
 obtain⟨p,ys,ts,l,rfl,G,T,hd,B,Fe,q⟩:=h
 cases ry
 obtain⟨its,r,pl,hz⟩:=I.tuple G
 obtain⟨e,F,z⟩:=Hn I J r T hd rx Fe
 refine ahZ e (show s.heap.IsTuple p its.toArray from pl) (fun w L=>F w (by simpa using L)) ⟨.bl _,H,I,rfl,?_⟩
 rw [show its.toArray.any e=its.any e by simp,Ho z]
 exact q
def JN (K:aaa) (tup:Bool):V->List V->Hp->VK->Prop:=fun x vs H Q=>∃p ys ts l y,x=.ref p/\vs=[y]/\(if tup=true then bH K H p ys else aC K H p ys)/\Ts K H ts ys/\jm K H (Tr.tup l).toD y/\(∀t∈ts,(∃q,t=.tup q)/\t.toD.deep<=8)/\Q (.int ((ts.countP fun a=>eqT a (.tup l):Nat):Int)) H
theorem Bo (L:X.A.units+64<cLine):PZ X "list.count" (JN X.K false):=by
 intro pins s σ H x vs v us Q I rx rv h
 obtain⟨p,ys,ts,l,y,rfl,rfl,B,T,hd,Fe,q⟩:=h
 rw [if_neg (by decide)] at B
 cases (show v=abF p from rx)
 obtain⟨u,rfl,ru⟩:=vals1 rv
 obtain⟨its,r,pl,_⟩:=I.list B
 obtain⟨e,G,F⟩:=Hn I L r T hd ru Fe
 obtain⟨⟨oc,od,dat,sl⟩,J,z,n,hd⟩:=id pl.isList
 simp only at z hd
 subst z hd
 refine call_meets agc pl.isList.typeIs PySem.F.entry_list_count (PySem.F.args_list_count_2 _ _) (SeqAt.list_countAt p its.toArray n od sl u e) ⟨J,fun w O=>G w (by simpa using O),⟨.int _,H,I.tok _,⟨_,rfl⟩,?_⟩⟩
 rw [show its.toArray.toList.countP e=ts.countP fun a=>eqT a (.tup l) from qM F]
 exact q
theorem wW (L:X.A.units+64<cLine):PZ X "tuple.count" (JN X.K true):=by
 intro pins s σ H x vs v us Q I rx rv h
 obtain⟨p,ys,ts,l,y,rfl,rfl,F,T,hd,Fe,q⟩:=h
 rw [if_pos rfl] at F
 cases (show v=abF p from rx)
 obtain⟨u,rfl,ru⟩:=vals1 rv
 obtain⟨its,r,pl,_⟩:=I.tuple F
 obtain⟨e,J,G⟩:=Hn I L r T hd ru Fe
 obtain⟨⟨oc,od,dat,sl⟩,B,z,n,hd⟩:=id (show s.heap.IsTuple p its.toArray from pl)
 simp only at z hd
 subst z hd
 refine call_meets af2 ⟨_,B,rfl⟩ PySem.F.entry_tuple_count (PySem.F.args_tuple_count_2 _ _) (SeqAt.tuple_countAt p its.toArray n od sl u e) ⟨B,fun w O=>J w (by simpa using O),⟨.int _,H,I.tok _,⟨_,rfl⟩,?_⟩⟩
 rw [show its.toArray.toList.countP e=ts.countP fun a=>eqT a (.tup l) from qM G]
 exact q
end
end L2
namespace L2
open PySem
theorem noKeysZ:typeLookup (.type "zip") "keys"=pure none:=by rw [typeLookup_type,builtinLookup_eq_fast];kernel_rfl
theorem zip_getattr_none:typeLookup (.type "zip") "__getattr__"=pure none:=by rw [typeLookup_type,builtinLookup_eq_fast];kernel_rfl
theorem entry_zip_getattribute:entryFor table "zip.__getattribute__"=some Builtin.«object.__getattribute__» :=
 entryFor_alias (id':="object.__getattribute__") (by kernel_rfl) (by decide +kernel) (by decide +kernel) (by kernel_rfl)
theorem meets_miss_zip (a:aay) (xs:Array aae) (sl:Array (Option aae)) (name:Str) (u:Tok) (hmiss:typeLookup (.type "zip") name=pure none) (hname:(["__module__","__name__","__qualname__","__doc__","__annotations__"]:List Str).contains name=false) (hsz:name.length+100<=aaj:=by size_fits) :
  Meets (Builtin.«object.__getattribute__» ⟨[.ref a,.str name u],[]⟩) (fun A R s=>s.heap.get? a=some { cls:=.type "zip",dict:=none,data:=.fields xs,slots:=sl }/\raisesAttr (.ref a) name A R s) :=
 Meets.of_wp fun prog w A R s hs=>by
  obtain⟨q,g,d,tk,os⟩:=s
  obtain⟨z,hs⟩:=hs
  have B:(⟨q,g,d,tk,os⟩:aah).TypeIs (.ref a) "zip":=⟨_,z,rfl⟩
  unfold Builtin.«object.__getattribute__»
  repeat (any_goals (first|assumption|wp_step))
  simp only [hname,abQ,if_false]
  repeat (any_goals (first|assumption|wp_step))
  exact wpAny_raiseAttrError hs.1 hs.2 (attrMsg_fits (by decide +kernel) hsz)
end L2
namespace L2
open PySem PySem.Spec PyProof.Rows
theorem KW {prog:abn} {w:abU} {A:abP} {E:aae->aah->Prop} {s:aah} {a:aay} {xs:Array aae} {sl:Array (Option aae)} {Q:Option aae->aah->Prop}
  (B:s.heap.get? a=some { cls:=.type "zip",dict:=none,data:=.fields xs,slots:=sl }) (F:A.handled=none)
  (h:∀h' tk e,Heap.NewExcOf s.heap h' e "AttributeError"->Q none { s with heap:=h',toks:=tk }) :
  aby (model prog w) A (getAttr? (.ref a) "keys") Q E s:=by
 obtain⟨G,g,d,tk,os⟩:=s
 have z:∀tk',(⟨G,g,d,tk',os⟩:aah).TypeIs (.ref a) "zip":=fun _=>⟨_,B,rfl⟩
 have f1:=sub_AttributeError
 have J:=ad9.lookup
 have L:=ad9.bind (.ref a)
 have O:=zip_getattr_none
 have hmiss:=noKeysZ
 unfold getAttr? getAttrBy? getAttrBy
 repeat (any_goals (first|assumption|exact z _|((with_reducible show aby _ _ (call (aew "zip.__getattribute__") _ _) _ _ _);refine call_meets ad9 (z _) entry_zip_getattribute (PySem.F.args_zip_getattribute_2 _ _) (meets_miss_zip a xs sl "keys" _ hmiss (by decide +kernel) (by decide)) ⟨B,F,fun h' tk' e q=>?_⟩)|wp_step))
 obtain⟨t',Y,V⟩:=q.there
 show aby _ _ (getattributeRaised _ _ _ _ _ _ _) _ _ _
 unfold getattributeRaised
 repeat (any_goals (first|assumption|wp_step))
 exact h _ _ _ q.of
abbrev IsZipF (h:Heap) (z TI TO:aay) (f0:aae) (f1:Bool):Prop :=
 h.get? z=some { cls:=.type "zip",dict:=none,data:=.fields #[f0,.bool f1,.bool false,.ref TI,.ref TO],slots:=#[] }
def QN (h:Heap) (b:Bool) (i l:aay) (k:Nat):Prop:=match b with|true=>h.IsTupleIter i l k|false=>h.IsListIter i l k
def QO (h:Heap) (b:Bool) (l:aay) (xs:Array aae):Prop:=match b with|true=>h.IsTuple l xs|false=>h.IsList l xs
theorem QN.at {h h':Heap} {b:Bool} {i l:aay} {k:Nat} (x:QN h b i l k) (e:∀o,h.get? i=some o->h'.get? i=some o):QN h' b i l k:=by
 cases b with
 | false=>obtain⟨o,q,r⟩:=x;exact⟨o,e _ q,r⟩
 | true=>obtain⟨o,q,r⟩:=x;exact⟨o,e _ q,r⟩
theorem QO.at {h h':Heap} {b:Bool} {l:aay} {xs:Array aae} (x:QO h b l xs) (e:∀o,h.get? l=some o->h'.get? l=some o):QO h' b l xs:=by
 cases b with
 | false=>obtain⟨o,q,r⟩:=x;exact⟨o,e _ q,r⟩
 | true=>obtain⟨o,q,r⟩:=x;exact⟨o,e _ q,r⟩
theorem QN.there {h:Heap} {b:Bool} {i l:aay} {k:Nat} (x:QN h b i l k):∃o,h.get? i=some o:=by
 cases b with
 | false=>obtain⟨o,q,r⟩:=x;exact⟨o,q⟩
 | true=>obtain⟨o,q,r⟩:=x;exact⟨o,q⟩
section
variable {prog:abn} {w:abU} {A:abP} {E:aae->aah->Prop} {s:aah}
theorem Cq {it t:aay} {i:Nat} {items:Array aae} {x:aae} {Q:aae->aah->Prop} (q:s.heap.IsTupleIter it t i)
  (J:s.heap.IsTuple t items) (L:items[i]?=some x)
  (F:∀h',h'.IsTupleIter it t (i+1)->aek it s.heap h'->Q x { s with heap:=h' }) :
  aby (model prog w) A (ab2 (.ref it)) Q E s:=by
 obtain⟨o,z,G,hd⟩:=id q
 obtain⟨ol,Zl,_,nl,B⟩:=J
 unfold ab2
 refine aac (wpAny_callSpecial?_slot (name:=aad "__next__") q.typeIs age
  (wpAny_call_entry age q.typeIs PySem.F.entry_tuple_iterator_next ?_ (PySem.F.args_tuple_iterator_next_1 _)))
 show aby _ _ (field (.ref it) 0 >>= _) _ _ s
 refine aac (wpAny_field z hd (x:=.ref t) rfl ?_)
 show aby _ _ (if (abF t == ack)=true then _ else _) _ _ s
 rw [if_neg (show ¬ ((abF t == ack)=true) from aaZ)]
 show aby _ _ (field (.ref it) 1 >>= _) _ _ s
 refine aac (wpAny_field z hd (x:=.int i 0) rfl ?_)
 show aby _ _ (seqItems? (.ref t) >>= _) _ _ s
 refine aac (wpAny_seqItems Zl B ?_)
 simp only [acv,L]
 refine aac (wpAny_setField z hd (by simp) (aav ⟨x,rfl,aav (F _ ?_ (Heap.SameBut.update ..))⟩))
 exact⟨_,Heap.get?_update_self _ z (Obj.isFreed_of_fields (Obj.data_mapFields hd _)),(Obj.cls_mapFields ..).trans G,by
  rw [Obj.data_mapFields hd];simp [rawInt]⟩
theorem Fp {b:Bool} {it t:aay} {i:Nat} {items:Array aae} {x:aae} {Q:aae->aah->Prop} (q:QN s.heap b it t i)
  (B:QO s.heap b t items) (F:items[i]?=some x)
  (z:∀h',QN h' b it t (i+1)->aek it s.heap h'->Q x { s with heap:=h' }) :
  aby (model prog w) A (ab2 (.ref it)) Q E s:=by
 cases b with
 | false=>exact wpAny_nextOf_list_item q B F z
 | true=>exact Cq q B F z
structure ZD (z TI TO i1 i2 l1 l2 a:aay):Prop where
 TIz:TI≠z
 TOz:TO≠z
 i1z:i1≠z
 i2z:i2≠z
 TITO:TI≠TO
 TIi1:TI≠i1
 TIi2:TI≠i2
 TOi1:TO≠i1
 TOi2:TO≠i2
 i12:i1≠i2
 l1z:l1≠z
 l1TO:l1≠TO
 l1i1:l1≠i1
 l1i2:l1≠i2
 l2z:l2≠z
 l2TO:l2≠TO
 l2i1:l2≠i1
 l2i2:l2≠i2
 za:z≠a
 TIa:TI≠a
 TOa:TO≠a
 i1a:i1≠a
 i2a:i2≠a
structure Of (h:Heap) (b:Bool) (z TI TO i1 i2 l1 l2 a:aay) (k:Nat):Prop where
 z:∃f0 f1,IsZipF h z TI TO f0 f1/\(f0=.none\/∃T o,f0=rawInt ((T:Nat):Int)/\h.get? T=some o/\T≠z/\T≠TO/\T≠i1/\T≠i2/\T≠a)
 ti:IsPair h TI (.ref i1) (.ref i2)
 to:∃x y,IsPair h TO x y
 j1:h.IsListIter i1 l1 k
 j2:QN h b i2 l2 k
theorem Of.ext {h h':Heap} {b:Bool} {z TI TO i1 i2 l1 l2 a:aay} {k:Nat} (D:ZD z TI TO i1 i2 l1 l2 a) (x:Of h b z TI TO i1 i2 l1 l2 a k) (e:∀c o,c≠a->h.get? c=some o->h'.get? c=some o):Of h' b z TI TO i1 i2 l1 l2 a k:=by
 obtain⟨⟨f0,f1,hz,B⟩,F,⟨u,v,G⟩,h1,h2⟩:=x
 refine⟨⟨f0,f1,e _ _ D.za hz,?_⟩,e _ _ D.TIa F,⟨u,v,e _ _ D.TOa G⟩,h1.at fun o q=>e _ o D.i1a q,h2.at fun o q=>e _ o D.i2a q⟩
 rcases B with B|⟨T,o,J,L,n1,n2,n3,n4,n5⟩
 ·exact .inl B
 ·exact .inr ⟨T,o,J,e _ _ n5 L,n1,n2,n3,n4,n5⟩
theorem Fq {z TI TO T0:aay} {f1:Bool} {B:Obj} {C:Bool->aah->Prop} (hz:IsZipF s.heap z TI TO (rawInt ((T0:Nat):Int)) f1) (F:s.heap.get? T0=some B)
  (h:∀h₁,IsZipF h₁ z TI TO (rawInt ((T0:Nat):Int)) true->aek z s.heap h₁->C false { s with heap:=h₁ }):aby (model prog w) A (ab5 (.ref z)) C E s:=by
 unfold ab5
 refine aac (wpAny_field hz rfl (x:=rawInt ((T0:Nat):Int)) rfl ?_)
 show aby _ _ (loadIfAlive (((T0:Nat):Int).toNat) >>= _) _ _ _
 rw [acv]
 refine aac (Q:=_) ?_
 have al:∀{Q:Option Obj->aah->Prop},Q (some B) s->aby (model prog w) A (loadIfAlive T0) Q E s:=fun {Q} q=>by
  have G:Q (s.heap.get? T0) s:=F ▸ q
  exact fun _ _ _=>G
 refine al ?_
 rw [if_neg (by simp)]
 refine aac (wpAny_field hz rfl (x:=.bool f1) rfl ?_)
 cases f1 with
 | true =>
  rw [if_neg (by decide)]
  exact aav (h s.heap hz ⟨rfl,fun _ _=>rfl⟩)
 | false =>
  rw [if_pos (by decide)]
  refine aac (wpAny_setField_rec hz (by simp) fun h₁ Mo Bp=>aav (h h₁ Mo Bp))
theorem Og {b:Bool} {z TI TO i1 i2 l1 l2 a:aay} {k:Nat} {xs ys:Array aae} {x y:aae} {Q:aae->aah->Prop} (D:ZD z TI TO i1 i2 l1 l2 a) (ha:a<s.heap.objs.size)
  (Z:Of s.heap b z TI TO i1 i2 l1 l2 a k) (mj:s.heap.IsList l1 xs) (gW:QO s.heap b l2 ys) (O:xs[k]?=some x) (V:ys[k]?=some y)
  (L:∀h' T,Of h' b z TI TO i1 i2 l1 l2 a (k+1)->IsPair h' T x y->s.heap.objs.size<=T ->
   (∀c o,c≠z->c≠TO->c≠i1->c≠i2->s.heap.get? c=some o->h'.get? c=some o)->Q (.ref T) { s with heap:=h' }) :
  aby (model prog w) A (Builtin.«zip.__next__» ⟨[.ref z],[]⟩) (fun fin s'=>∃v,fin=.done (.ret v)/\Q v s') E s:=by
 obtain⟨⟨f0,f1,hz,Y⟩,W8,⟨u,v,J⟩,h1,h2⟩:=Z
 show aby _ _ (field (.ref z) 2 >>= _) _ _ _
 refine aac (wpAny_field hz rfl (x:=.bool false) rfl ?_)
 show aby _ _ (field (.ref z) 3 >>= _) _ _ _
 refine aac (wpAny_field hz rfl (x:=.ref TI) rfl ?_)
 refine aac (wpAny_seqItems W8 rfl ?_)
 show aby _ _ (ab5 (.ref z) >>= _) _ _ _
 rcases Y with rfl|⟨T0,o0,rfl,Zz,n1,n2,n3,n4,n5⟩
 ·refine aac ?_
  unfold ab5
  refine aac (wpAny_field hz rfl (x:=.none) rfl (aav ?_))
  simp only [if_true]
  refine aac (wpAny_rule ?_)
  refine aac (wpAny_field hz rfl (x:=.ref TO) rfl ?_)
  refine aac (wpAny_setField_rec hz (by simp) fun h₁ Mo Bp=>?_)
  replace Mo:IsZipF h₁ z TI TO .ellipsis f1:=Mo
  refine aac ?_
  simp only [List.zipIdx_cons,List.zipIdx_nil,af8,agW]
  refine aac (aac (wpAny_onRaise ?_))
  show aby _ _ (ab2 (.ref i1) >>= _) _ _ _
  refine aac (wpAny_nextOf_list_item (h1.extBut Bp.extBut D.i1z) (mj.extBut Bp.extBut D.l1z) O fun h₂ h1₂ KY=>aav ?_)
  have W9:IsPair h₂ TO u v:=KY.extBut _ _ D.TOi1 (Bp.extBut _ _ D.TOz J)
  refine aac (wpAny_seqItems W9 rfl ?_)
  refine aac (wpAny_updateSeq_pair W9 fun h₃ Ux Mp=>?_)
  replace Ux:IsPair h₃ TO x v:=Ux
  refine aac (wpAny_letGo (aav ?_))
  refine aac (aac (wpAny_onRaise ?_))
  show aby _ _ (ab2 (.ref i2) >>= _) _ _ _
  have Sm:∀c o,c≠z->c≠i1->c≠TO->s.heap.get? c=some o->h₃.get? c=some o:=fun c o q B F e=>Mp.extBut _ _ F (KY.extBut _ _ B (Bp.extBut _ _ q e))
  refine aac (Fp (h2.at fun o e=>Sm _ o D.i2z D.i12.symm D.TOi2.symm e) (gW.at fun o e=>Sm _ o D.l2z D.l2i1 D.l2TO e) V fun h₄ h2₄ Xa=>aav ?_)
  have Xb:IsPair h₄ TO x v:=Xa.extBut _ _ D.TOi2 Ux
  refine aac (wpAny_seqItems Xb rfl ?_)
  refine aac (wpAny_updateSeq_pair Xb fun h₅ Oh Xc=>?_)
  replace Oh:IsPair h₅ TO x y:=Oh
  refine aac (wpAny_letGo (aav (aav ?_)))
  refine aac (wpAny_seqItems Oh rfl ?_)
  refine aac (wpAny_newTuple ?_)
  have hsz:h₅.objs.size=s.heap.objs.size:=by rw [Xc.1,Xa.1,Mp.1,KY.1,Bp.1]
  have hz₅:IsZipF h₅ z TI TO .ellipsis f1:=Xc.extBut _ _ D.TOz.symm (Xa.extBut _ _ D.i2z.symm (Mp.extBut _ _ D.TOz.symm (KY.extBut _ _ D.i1z.symm Mo)))
  have hk₅:∀c o,c≠z->c≠TO->c≠i1->c≠i2->s.heap.get? c=some o->h₅.get? c=some o:=fun c o q B F G e =>
   Xc.extBut _ _ B (Xa.extBut _ _ G (Sm _ _ q F B e))
  have h1₅:h₅.IsListIter i1 l1 (k+1):=((h1₂.extBut Mp.extBut D.TOi1.symm).extBut Xa.extBut D.i12).extBut Xc.extBut D.TOi1.symm
  have h2₅:QN h₅ b i2 l2 (k+1):=h2₄.at fun o e=>Xc.extBut _ _ D.TOi2.symm e
  have Uy:z<h₅.objs.size:=aaA hz₅
  have Xd:TO<h₅.objs.size:=aaA Oh
  have Xe:i1<h₅.objs.size:=by obtain⟨_,e,_⟩:=h1₅;exact aaA e
  have Xf:i2<h₅.objs.size:=by obtain⟨_,e⟩:=h2₅.there;exact aaA e
  show aby _ _ (aeL (.ref z) (.ref h₅.objs.size) >>= _) _ _ _
  refine aac ?_
  unfold aeL
  have hz₆:IsZipF (h₅.push { cls:=.type "tuple",data:=.seq #[x,y] }) z TI TO .ellipsis f1:=aag _ hz₅
  refine aac (wpAny_setField_rec hz₆ (by simp) fun h₇ hz₇ hs₇=>?_)
  replace hz₇:IsZipF h₇ z TI TO (rawInt h₅.objs.size) f1:=hz₇
  refine wpAny_setField_rec hz₇ (by simp) fun h₈ hz₈ hs₈=>?_
  replace hz₈:IsZipF h₈ z TI TO (rawInt h₅.objs.size) false:=hz₈
  have up:∀c o,c≠z->h₅.get? c=some o->h₈.get? c=some o:=fun c o q e=>hs₈.extBut _ _ q (hs₇.extBut _ _ q (aag _ e))
  have hT₈:IsPair h₈ h₅.objs.size x y:=hs₈.extBut _ _ (adz Uy) (hs₇.extBut _ _ (adz Uy) (aa0 _ rfl))
  refine aav ⟨_,rfl,?_⟩
  show Q (.ref h₅.objs.size) _
  refine L h₈ h₅.objs.size ⟨⟨_,_,hz₈,.inr ⟨h₅.objs.size,_,rfl,hT₈,adz Uy,adz Xd,adz Xe,adz Xf,adz (by rw [hsz];exact ha)⟩⟩,up _ _ D.TIz (hk₅ _ _ D.TIz D.TITO D.TIi1 D.TIi2 W8),⟨x,y,up _ _ D.TOz Oh⟩,h1₅.at fun o e=>up _ o D.i1z e,h2₅.at fun o e=>up _ o D.i2z e⟩ hT₈ (agO hsz.symm) fun c o q B F G e=>up c o q (hk₅ c o q B F G e)
 ·refine aac (Fq hz Zz fun h₁ Mo Bp=>?_)
  simp only [abQ,if_false,List.forIn_toArray,af8,agW]
  refine aac ?_
  refine aac (aac (wpAny_holding ?_))
  show aby _ _ (ab2 (.ref i1) >>= _) _ _ _
  refine aac (wpAny_nextOf_list_item (h1.extBut Bp.extBut D.i1z) (mj.extBut Bp.extBut D.l1z) O fun h₂ h1₂ KY=>aav ?_)
  refine aav ?_
  refine aac (aac (wpAny_holding ?_))
  show aby _ _ (ab2 (.ref i2) >>= _) _ _ _
  have up2:∀c o,c≠z->c≠i1->s.heap.get? c=some o->h₂.get? c=some o:=fun c o q B e=>KY.extBut _ _ B (Bp.extBut _ _ q e)
  refine aac (Fp (h2.at fun o e=>up2 _ o D.i2z D.i12.symm e) (gW.at fun o e=>up2 _ o D.l2z D.l2i1 e) V fun h₃ h2₃ Mp=>aav ?_)
  refine aav (aav ?_)
  show aby _ _ (newTuple [x,y] >>= _) _ _ _
  refine aac (wpAny_newTuple (aav ⟨_,rfl,?_⟩))
  have hsz:h₃.objs.size=s.heap.objs.size:=by rw [Mp.1,KY.1,Bp.1]
  have Sm:∀c o,c≠z->c≠i1->c≠i2->s.heap.get? c=some o->h₃.get? c=some o:=fun c o q B F e=>Mp.extBut _ _ F (up2 _ _ q B e)
  have hz₃:IsZipF h₃ z TI TO (rawInt ((T0:Nat):Int)) true:=Mp.extBut _ _ D.i2z.symm (KY.extBut _ _ D.i1z.symm Mo)
  have h1₃:h₃.IsListIter i1 l1 (k+1):=h1₂.extBut Mp.extBut D.i12
  have Uz:∀c o,h₃.get? c=some o->(h₃.push { cls:=.type "tuple",data:=.seq #[x,y] }).get? c=some o:=fun c o e=>aag _ e
  refine L (h₃.push { cls:=.type "tuple",data:=.seq #[x,y] }) h₃.objs.size ⟨⟨_,_,Uz _ _ hz₃,.inr ⟨T0,o0,rfl,Uz _ _ (Sm _ _ n1 n3 n4 Zz),n1,n2,n3,n4,n5⟩⟩,Uz _ _ (Sm _ _ D.TIz D.TIi1 D.TIi2 W8),⟨u,v,Uz _ _ (Sm _ _ D.TOz D.TOi1 D.TOi2 J)⟩,h1₃.at fun o e=>Uz _ o e,h2₃.at fun o e=>Uz _ o e⟩ (aa0 _ rfl) (agO hsz.symm) fun c o q _ F G e=>Uz _ _ (Sm c o q F G e)
theorem QP {b:Bool} {z TI TO i1 i2 l1 l2 a:aay} {k:Nat} {xs:Array aae} {Q:Fin->aah->Prop} (V:A.handled=none) (D:ZD z TI TO i1 i2 l1 l2 a)
  (Z:Of s.heap b z TI TO i1 i2 l1 l2 a k) (mj:s.heap.IsList l1 xs) (Y:xs[k]?=none)
  (O:∀h' e,(∀c o,c≠z->c≠TO->c≠i1->c≠i2->s.heap.get? c=some o->h'.get? c=some o)->(∃o,h'.get? e=some o/\o.cls=.type "StopIteration")->E (.ref e) { s with heap:=h' }) :
  aby (model prog w) A (Builtin.«zip.__next__» ⟨[.ref z],[]⟩) Q E s:=by
 obtain⟨⟨f0,f1,hz,hf⟩,W8,⟨u,v,a1⟩,h1,h2⟩:=Z
 show aby _ _ (field (.ref z) 2 >>= _) _ _ _
 refine aac (wpAny_field hz rfl (x:=.bool false) rfl ?_)
 show aby _ _ (field (.ref z) 3 >>= _) _ _ _
 refine aac (wpAny_field hz rfl (x:=.ref TI) rfl ?_)
 refine aac (wpAny_seqItems W8 rfl ?_)
 show aby _ _ (ab5 (.ref z) >>= _) _ _ _
 rcases hf with rfl|⟨T0,o0,rfl,Zz,n1,n2,n3,n4,n5⟩
 ·refine aac ?_
  unfold ab5
  refine aac (wpAny_field hz rfl (x:=.none) rfl (aav ?_))
  simp only [if_true]
  refine aac (wpAny_rule ?_)
  refine aac (wpAny_field hz rfl (x:=.ref TO) rfl ?_)
  refine aac (wpAny_setField_rec hz (by simp) fun h₁ Mo Bp=>?_)
  replace Mo:IsZipF h₁ z TI TO .ellipsis f1:=Mo
  refine aac ?_
  simp only [List.zipIdx_cons,List.zipIdx_nil,af8,agW]
  refine aac (aac (wpAny_onRaise ?_))
  show aby _ _ (ab2 (.ref i1) >>= _) _ _ _
  refine aac (wpAny_nextOf_list_end V (h1.extBut Bp.extBut D.i1z) (mj.extBut Bp.extBut D.l1z) Y fun h₂ e KY J=>?_)
  obtain⟨oe,q,B⟩:=J
  have hz₂:IsZipF h₂ z TI TO .ellipsis f1:=KY _ _ D.i1z.symm Mo
  have L:e≠z:=fun x=>by subst x;rw [hz₂] at q;cases q;simp at B
  refine wpAny_setField_rec hz₂ (by simp) fun h₃ _ Mp=>O h₃ e (fun c o F _ G _ x=>Mp.extBut _ _ F (KY _ _ G (Bp.extBut _ _ F x))) ⟨oe,Mp.extBut _ _ L q,B⟩
 ·refine aac (Fq hz Zz fun h₁ Mo Bp=>?_)
  simp only [abQ,if_false,List.forIn_toArray,af8,agW]
  refine aac ?_
  refine aac (aac (wpAny_holding ?_))
  show aby _ _ (ab2 (.ref i1) >>= _) _ _ _
  refine aac (wpAny_nextOf_list_end V (h1.extBut Bp.extBut D.i1z) (mj.extBut Bp.extBut D.l1z) Y fun h₂ e KY J=>?_)
  exact O h₂ e (fun c o F _ G _ x=>KY _ _ G (Bp.extBut _ _ F x)) J
theorem zx {b:Bool} {z TI TO i1 i2 l1 l2 a:aay} {k:Nat} {xs ys:Array aae} {x y:aae} {Q:Option aae->aah->Prop} (D:ZD z TI TO i1 i2 l1 l2 a) (ha:a<s.heap.objs.size)
  (Z:Of s.heap b z TI TO i1 i2 l1 l2 a k) (mj:s.heap.IsList l1 xs) (gW:QO s.heap b l2 ys) (O:xs[k]?=some x) (V:ys[k]?=some y)
  (L:∀h' T,Of h' b z TI TO i1 i2 l1 l2 a (k+1)->IsPair h' T x y->s.heap.objs.size<=T ->
   (∀c o,c≠z->c≠TO->c≠i1->c≠i2->s.heap.get? c=some o->h'.get? c=some o)->Q (some (.ref T)) { s with heap:=h' }) :
  aby (model prog w) A (pyNext (.ref z)) Q E s:=by
 obtain⟨f0,f1,hz,_⟩:=Z.z
 have q:s.TypeIs (.ref z) "zip":=⟨_,hz,rfl⟩
 unfold pyNext
 exact aac (wpAny_attempt (wpAny_callSpecial?_slot (name:=aad "__next__") q aer
  (wpAny_call_entry aer q ahp (Og D ha Z mj gW O V fun h' T B F G J=>aav (L h' T B F G J)) (ahf _))))
theorem Cr {b:Bool} {z TI TO i1 i2 l1 l2 a:aay} {k:Nat} {xs:Array aae} {Q:Option aae->aah->Prop} (J:A.handled=none) (D:ZD z TI TO i1 i2 l1 l2 a)
  (Z:Of s.heap b z TI TO i1 i2 l1 l2 a k) (mj:s.heap.IsList l1 xs) (O:xs[k]?=none)
  (B:∀h',(∀c o,c≠z->c≠TO->c≠i1->c≠i2->s.heap.get? c=some o->h'.get? c=some o)->Q none { s with heap:=h' }):aby (model prog w) A (pyNext (.ref z)) Q E s:=by
 obtain⟨f0,f1,hz,_⟩:=Z.z
 have q:s.TypeIs (.ref z) "zip":=⟨_,hz,rfl⟩
 unfold pyNext
 refine aac (wpAny_attempt (wpAny_callSpecial?_slot (name:=aad "__next__") q aer
  (wpAny_call_entry aer q ahp (QP J D Z mj O fun h' e hk G=>?_) (ahf _))))
 obtain⟨o,L,F⟩:=G
 refine aac (wpAny_isInstance (T:="StopIteration") (b:=true) ⟨o,L,F⟩ isSubtype_stop ?_)
 exact aav (B _ hk)
end
noncomputable abbrev ZA (h:Heap) (l1 l2:aay):Heap:=(zipH1 h l1).push { cls:=.type "tuple_iterator",data:=.fields #[.ref l2,.int 0 0] }
noncomputable abbrev ZC (h:Heap) (l1 l2:aay):Heap:=(ZA h l1 l2).push { cls:=.type "tuple",data:=.seq #[.ref h.objs.size,.ref (zipH1 h l1).objs.size] }
noncomputable abbrev ZE (h:Heap) (l1 l2:aay):Heap:=(ZC h l1 l2).push { cls:=.type "tuple",data:=.seq #[.none,.none] }
noncomputable abbrev UA (h:Heap) (l1 l2:aay):Heap:=(ZE h l1 l2).push { cls:=.type "zip",data:=.fields #[.none,.bool false,.bool false,.ref (ZA h l1 l2).objs.size,.ref (ZC h l1 l2).objs.size] }
theorem Hr (l1 l2:aay) (xs ys:Array aae) :
  Meets (Builtin.«zip.__new__» ⟨[.type "zip",.ref l1,.ref l2],[]⟩) (fun _ R s=>s.heap.IsList l1 xs/\s.heap.IsTuple l2 ys /\
   R (.ok (.ret (.ref (ZE s.heap l1 l2).objs.size))) { s with heap:=UA s.heap l1 l2 }) :=
 .of_wp fun prog w A R s h=>by
  obtain⟨q,g,d,tk,os⟩:=s
  obtain⟨mj,gW,h⟩:=h
  have Xg:=sub_zip
  have me:Heap.IsList (Shared.heap ⟨q,g,d,tk,os⟩) l1 xs:=mj
  have mf:Heap.IsTuple (Shared.heap ⟨q.push { cls:=.type "list_iterator",data:=.fields #[.ref l1,.int 0 0] },g,d,tk,os⟩) l2 ys:=Heap.IsTuple.push gW _
  wp_walk using wpAny_pyIter_list me,wpAny_pyIter_tuple mf
  exact⟨_,rfl,h⟩
section
variable {prog:abn} {w:abU} {A:abP} {E:aae->aah->Prop} {s:aah}
theorem KZ {l1 l2:aay} {xs ys:Array aae} {Q:aae->aah->Prop} (mj:s.heap.IsList l1 xs) (gW:s.heap.IsTuple l2 ys)
  (h:∀h',IsZip h' (s.heap.objs.size+4) (s.heap.objs.size+2) (s.heap.objs.size+3) .none->IsPair h' (s.heap.objs.size+2) (.ref s.heap.objs.size) (.ref (s.heap.objs.size+1)) ->
   IsPair h' (s.heap.objs.size+3) .none .none->h'.IsListIter s.heap.objs.size l1 0->h'.IsTupleIter (s.heap.objs.size+1) l2 0->h'.objs.size=s.heap.objs.size+5 ->
   (∀c o,s.heap.get? c=some o->h'.get? c=some o)->Q (.ref (s.heap.objs.size+4)) { s with heap:=h' }) :
  aby (model prog w) A (call (.type "zip") [.ref l1,.ref l2]) Q E s:=by
 refine callType_new PySem.F.called_zip (by decide) (PySem.F.typeCall_zip_2 _ _) (PySem.F.newCall_zip_2 _ _) (fun obj=>PySem.F.args_object_init_3 obj _ _) PySem.F.entry_zip_new
  (Hr l1 l2 xs ys) ⟨mj,gW,?_⟩
 have z:(zipH1 s.heap l1).objs.size=s.heap.objs.size+1:=adN ..
 have B:(ZA s.heap l1 l2).objs.size=s.heap.objs.size+2:=by rw [adN,z]
 have F:(ZC s.heap l1 l2).objs.size=s.heap.objs.size+3:=by rw [adN,B]
 have G:(ZE s.heap l1 l2).objs.size=s.heap.objs.size+4:=by rw [adN,F]
 have Y:(UA s.heap l1 l2).objs.size=s.heap.objs.size+5:=by rw [adN,G]
 have q:(UA s.heap l1 l2).get? (ZE s.heap l1 l2).objs.size=some _:=aa0 _ rfl
 have O:(UA s.heap l1 l2).get? (ZC s.heap l1 l2).objs.size=some _:=aag _ (aa0 _ rfl)
 have L:(UA s.heap l1 l2).get? (ZA s.heap l1 l2).objs.size=some _:=aag _ (aag _ (aa0 _ rfl))
 have J:(UA s.heap l1 l2).get? (zipH1 s.heap l1).objs.size=some _:=aag _ (aag _ (aag _ (aa0 _ rfl)))
 have V:(UA s.heap l1 l2).get? s.heap.objs.size=some _:=aag _ (aag _ (aag _ (aag _ (aa0 _ rfl))))
 show _/\_
 rw [B,F,G] at q
 rw [z,B] at L
 rw [F] at O
 rw [z] at J
 rw [G]
 exact⟨⟨_,q,rfl⟩,h _ q L O ⟨_,V,rfl,rfl⟩ ⟨_,J,rfl,rfl⟩ Y fun c o x =>
  aag _ (aag _ (aag _ (aag _ (aag _ x))))⟩
theorem Hs {b:Bool} {l1 l2:aay} {xs ys:Array aae} {Q:aae->aah->Prop} (mj:s.heap.IsList l1 xs) (gW:QO s.heap b l2 ys)
  (h:∀h',IsZip h' (s.heap.objs.size+4) (s.heap.objs.size+2) (s.heap.objs.size+3) .none->(∀a,Of h' b (s.heap.objs.size+4) (s.heap.objs.size+2) (s.heap.objs.size+3) s.heap.objs.size (s.heap.objs.size+1) l1 l2 a 0)->h'.objs.size=s.heap.objs.size+5 ->
   (∀c o,s.heap.get? c=some o->h'.get? c=some o)->Q (.ref (s.heap.objs.size+4)) { s with heap:=h' }) :
  aby (model prog w) A (call (.type "zip") [.ref l1,.ref l2]) Q E s:=by
 cases b with
 | false=>exact call_zip_2 mj gW fun h' q z B F G J L=>h h' q (fun _=>⟨⟨_,_,q,.inl rfl⟩,z,⟨_,_,B⟩,F,G⟩) J L
 | true=>exact KZ mj gW fun h' q z B F G J L=>h h' q (fun _=>⟨⟨_,_,q,.inl rfl⟩,z,⟨_,_,B⟩,F,G⟩) J L
end
section
variable {X:Cx} {k:Nat} {m:Str} {pos apos:Pos} {o e:Expr} {es:List Expr} {ta:TE} {t:TA}
theorem Oi {P:abn} {w:abU} {K:aaa} {mg:Str->Option aae} {base:Heap} {pl:Sem Bool} (B:X.prog=P) (L:X.w=w) (z:X.K=K) (hm:X.mg=mg) (F:X.base=base) (G:PE X o ta) (hr:dy k X.A) (ha:PA X (e::es) t)
  (vM:autoParam (starEach (e::es) X.env=(false,eval e X.env)::starEach es X.env) z0._auto_1) (q:autoParam ((backTo pos (starEach es X.env)).any (·.1)=false) z0._auto_1)
  (J:autoParam (eval (.Call (.Attribute o m apos) (e::es) [] pos) X.env=(do
   let ov <- eval o X.env
   standAt apos.atName
   let (f,first) <- holding [ov] (getMethod ov m pl)
   callWith pos f first (backTo pos (starEach (e::es) X.env)) (backToKw pos (keywordEach [] X.env)))) z0._auto_1) :
  PE X (.Call (.Attribute o m apos) (e::es) [] pos) (Us P w K mg base m k ta t):=by
 subst B L z hm F
 exact M5 G hr ha vM q J
def Xh (K:aaa) (H:Hp) (p:aay):Prop:=(∃ys,QA H p ys)\/∃ob,K.lookup p=some ob/\ob.cls=.type "tuple"/\ob.dict=none
theorem Xh.sm {K:aaa} {H H':Hp} {p:aay} (s:ah H H') (h:Xh K H p):Xh K H' p:=by
 rcases h with⟨ys,h⟩|h
 ·exact .inl ⟨ys,h.sm s⟩
 ·exact .inr h
def ab8 (K:aaa) (r:V->List V->Hp->VK->Prop) (to:TE) (t:TA):TE:=fun σ H Q=>to σ H fun x H1=>(∃p,x=.ref p/\Xh K H1 p)/\t σ H1 fun xs U=>r x xs U Q
theorem Oj {to:TE} {name:Str} {cpos:Pos} {id:String} {r:V->List V->Hp->VK->Prop} (slot:Slot "tuple" name id) (Eb:typeOf (.builtin id)=pure (.type "method_descriptor")) (hm:PZ X id r) (L:PE X o to) (ha:PA X (e::es) t)
  (MR:autoParam (attributeBase o name X.env (eval o X.env)=eval o X.env) z0._auto_1)
  (hfew:autoParam (((backTo cpos (starEach (e::es) X.env)).all (fun x=>!x.1) && (backToKw cpos (keywordEach [] X.env)).all (fun x=>x.1.isSome)
   && decide ((e::es).length+([]:List Keyword).length+(if ([]:List Keyword).isEmpty then 0 else 1)<30))=true) z0._auto_1)
  (MS:autoParam ((apos.endLine == cpos.line)=true) z0._auto_1) (hs:autoParam (starEach (e::es) X.env=(false,eval e X.env)::starEach es X.env) z0._auto_1) (GU:autoParam ((backTo cpos (starEach es X.env)).any (·.1)=false) z0._auto_1) :
  PE X (.Call (.Attribute o name apos) (e::es) [] cpos) (ab8 X.K r to t):=by
 intro pins s σ H Q I h
 refine wpAny_Call_method_late MR hfew MS rfl (thn (L pins s σ H _ I h) fun v s1 Zq=>?_)
 obtain⟨x,H1,I1,O,⟨p,ex,ty⟩,q1⟩:=Zq
 subst ex
 obtain rfl:v=abF p:=O
 have B:∃ob,s1.heap.get? p=some ob/\ob.cls=.type "tuple"/\ob.dict=none:=by
  rcases ty with⟨ys,its,n,sl,J⟩|⟨ob,hk,z,hd⟩
  ·obtain⟨q,_⟩:=(show cL X.prog X.w H1 s1.heap p (.jY ⟨.type "tuple",none,.seq its n,sl⟩ (.tup ys)) from I1.hok p _ J)
   exact⟨_,q,rfl,rfl⟩
  ·exact⟨ob,I1.oE p ob hk,z,hd⟩
 obtain⟨ob,q,z,hd⟩:=B
 refine⟨"tuple",id,ag6,slot,Eb,⟨ob,q,z⟩,(fun a G=>by cases G;exact⟨ob,q,hd⟩),?_⟩
 have F:=ha cpos pins s1 σ H1 _ I1 q1
 rw [hs] at F ⊢
 refine agg (by show(false || (backTo cpos (starEach es X.env)).any (·.1))=false;rw [GU] <;> rfl) (aeC ?_)
 exact thn F fun us s2 ⟨vs,U,I2,r2,q2⟩=>hm pins s2 σ U (.ref p) vs (.ref p) us Q I2 rfl r2 q2
end
end L2
namespace Bk
open PySem L2 cE
def Xi (x:Cs):Prop:=x≠[]/\x.length<=1000
noncomputable def Ht (sm:Bool) (a b:Cs):Bool:=if sm=true then decide (a=b) else !great a && (!great b && !decide (a=b))
noncomputable def ji (st:uw) (k:Lk):Bool:=Ht k.same (gM st k.l) (gM st k.r)
noncomputable def ay (st:uw) (r:Rl):List Fc:=(r.take++r.keep).map (wr st)
noncomputable def gR (ks:List Kd) (dM cf hs:List Fc) (h:Fc):Bool:=if h.k∈mJ ks then decide (h∈cf) else decide (hs.countP (fun a=>decide (a=h))<=dM.countP (fun a=>decide (a=h)))
noncomputable def jq (ks:List Kd) (st:uw) (r:Rl) (dM cf:List Fc):Bool:=(ay st r).all (gR ks dM cf (ay st r))
noncomputable def dH (st:uw) (r:Rl) (cf:List Fc):Bool:=(r.put.any fun f=>!decide (wr st f∈cf)) || (r.tell.any fun p=>!decide (gM st p.1=gM st p.2))
noncomputable def gS (ks:List Kd) (st:uw) (r:Rl) (dM cf:List Fc) (UB:Bool):Bool:=!UB && (r.aT.all (ji st) && (jq ks st r dM cf && (!decide (r.take=[]) || dH st r cf)))
def jX (b:Bool):Sp:=fun vs H Q _=>∃(p:V) (x y:Cs),vs=[p,tx x,tx y]/\Xi x/\Xi y/\Q (.bl (Ht b x y)) H
def JO (K:aaa):Sp:=fun vs H Q _=>∃(d:aay) (v:V) (st:uw) (p:Cs × Cs),vs=[.ref d,v]/\H d=some (.dK (st.map fJ))/\Pair K H p v/\∀t H',ah H H'->H' t=some (.tup [tx (gM st p.1),tx (gM st p.2)])->Q (.ref t) H'
def ux (K:aaa) (c:Cl):Sp:=fun vs H Q _=>∃(H0:Hp) (v:V) (d:aay) (r:Rl) (st:uw),vs=[v,.ref d]/\hV K c H0 H r v/\H d=some (.dK (st.map fJ))/\(∀k∈r.aT,Xi (gM st k.l)/\Xi (gM st k.r))/\r.aT.length<=1000/\∀H',ah H H'->Q (.bl (r.aT.all (ji st))) H'
def qN (K:aaa) (H:Hp) (v:V) (dM cf:List Fc) (b:Bool):Prop:=∃p q z G B F,v=.ref p/\bH K H p [.ref q,.ref z,G,.bl b]/\bH K H q B/\Paired (Fact K H) dM B/\bH K H z F/\Paired (Fact K H) cf F/\Xh K H q
theorem qN.sm {K:aaa} {H H':Hp} (s:ah H H') {v:V} {dM cf:List Fc} {b:Bool} (h:qN K H v dM cf b):qN K H' v dM cf b:=by
 obtain⟨p,J,L,Z,O,Y,e,h1,h2,q,B,F,G⟩:=h
 exact⟨p,J,L,Z,O,Y,e,h1.same s,h2.same s,L2.Paired.bA q fun _ _ z=>z.keep (Kp.same (H0:=H) s),B.same s,L2.Paired.bA F fun _ _ z=>z.keep (Kp.same (H0:=H) s),G.sm s⟩
def qO (K:aaa) (c:Cl):Sp:=fun vs H Q _=>∃(H0:Hp) (lk:aay) (v:V) (d:aay) (pv:V) (ks:List Kd) (r:Rl) (st:uw) (dM cf:List Fc) (b:Bool),vs=[.ref lk,v,.ref d,pv]/\pL K H lk ks/\hV K c H0 H r v/\H d=some (.dK (st.map fJ))/\qN K H pv dM cf b /\
 ks.length<=1000/\r.take.length<=100/\r.keep.length<=100/\(∀g∈r.take++r.keep,g.as.length<=1000)/\∀H',ah H H'->Q (.bl (jq ks st r dM cf)) H'
def uy (K:aaa) (c:Cl):Sp:=fun vs H Q _=>∃(H0:Hp) (v:V) (d q:aay) (r:Rl) (st:uw) (cf:List Fc) (z:List V),vs=[v,.ref d,.ref q]/\hV K c H0 H r v/\H d=some (.dK (st.map fJ))/\bH K H q z/\Paired (Fact K H) cf z /\
 r.put.length<=100/\r.tell.length<=100/\(∀g∈r.put,g.as.length<=1000)/\∀H',ah H H'->Q (.bl (dH st r cf)) H'
def mP (K:aaa) (H:Hp) (v:V) (n:Int) (ns:List Cs):Prop:=∃p t,v=.ref p/\bH K H p [.int n,.ref t]/\bH K H t (ns.map tx)
theorem mP.sm {K:aaa} {H H':Hp} (s:ah H H') {v:V} {n:Int} {ns:List Cs} (h:mP K H v n ns):mP K H' v n ns:=by
 obtain⟨p,t,e,h1,h2⟩:=h
 exact⟨p,t,e,h1.same s,h2.same s⟩
def stepOk (rs:List Rl) (n:Int) (ns:List Cs) (r:Rl):Prop:=0<=n/\rs[n.toNat]?=some r/\ns.length=(opens (r.take++r.keep)).length
def wX (n:Int) (ns:List Cs):Prop:=n.natAbs.log2<1920/\ns.length<=100/\∀x∈ns,Qx x
def uz (K:aaa) (c:Cl) (C:aay):Sp:=fun vs H Q E=>∃(H0:Hp) (bv sv:V) (ks:List Kd) (rs:List Rl) (n:Int) (ns:List Cs),vs=[bv,sv]/\we K c H0 H ks rs bv/\mP K H sv n ns/\wX n ns/\rs.length<=1000 /\
 ((∀r,¬ stepOk rs n ns r)->Ref C H E)/\(∀r,stepOk rs n ns r->Q .cg H)
noncomputable def b8 (r:Rl) (ns:List Cs):uw:=(opens (r.take++r.keep)).zip ns
def Hu (K:aaa) (c:Cl) (C:aay):Sp:=fun vs H Q E=>∃(H0:Hp) (bv pv sv:V) (ks:List Kd) (rs:List Rl) (dM cf:List Fc) (b:Bool) (n:Int) (ns:List Cs),vs=[bv,pv,sv]/\we K c H0 H ks rs bv/\qN K H pv dM cf b/\mP K H sv n ns/\wX n ns/\rs.length<=1000/\ks.length<=1000/\(∀r∈rs,Bj r) /\
 ((∀r,¬ stepOk rs n ns r)->Ref C H E)/\(∀r,stepOk rs n ns r->∀H',ah H H'->Q (.bl (gS ks (b8 r ns) r dM cf b)) H')
end Bk
namespace L2
open PySem PySem.Spec PyProof.Rows
section
variable {X:Cx}
theorem any_range (bs:List Bool):((acr bs.length).any fun i=>(bs[i]?).getD true)=bs.any id:=by
 rw [ac3,adv,adv]
 constructor
 ·rintro⟨i,hi,h⟩
  have q:=acy.mp hi
  exact⟨bs[i],aan q,by simpa [q] using h⟩
 ·rintro⟨b,z,h⟩
  obtain⟨i,hi,rfl⟩:=agw z
  exact⟨i,acy.mpr hi,by simpa [hi] using h⟩
theorem Fs:fD X (.builtin "any") (fun xs H Q=>∃(p:aay) (bs:List Bool),xs=[.ref p]/\X.calm=true/\aC X.K H p (bs.map V.bl)/\Q (.bl (bs.any id)) H):=by
 intro pins s σ H xs us Q I r h
 obtain⟨p,bs,rfl,Y,Z,q⟩:=h
 obtain⟨u,rfl,rx⟩:=vals1 r
 cases rx
 obtain⟨its,r',pl,hz⟩:=I.list Z
 have F:=t8 r'
 have mi:p<s.heap.objs.size:=by
  obtain⟨_,e,_⟩:=pl.isList
  exact aaA e
 refine call_any_walk (wpAny_pyIter_list pl.isList ?_)
 refine⟨s.heap.objs.size,[s.heap.objs.size,p],[s.heap.objs.size],its.toArray.size,_,_,fun i=>(bs[i]?).getD true,rfl,Walks.list (A:=X.A.in1) (I.ok.hd Y) _ p (abj mi) its.toArray,
  ⟨⟨_,aa0 _ rfl,rfl,rfl⟩,pl.isList.push _⟩,fun i v s' Q' E' O G=>?_,fun h' tk hk=>?_⟩
 ·have z:its[i]?=some v:=by simpa using O
  rw [F,abc] at z
  cases B:bs[i]? with
  | none=>rw [B] at z;cases z
  | some b =>
   rw [B] at z
   have L:ae2 b=v:=abA z
   subst L
   simp only [B,adI] at G
   exact wpAny_truthy_bool G
 ·have J:its.toArray.size=bs.length:=by rw [aaB,F,Lm9]
  rw [J,any_range]
  refine⟨.bl (bs.any id),H,I.kept (t':=tk) fun b o e=>hk b o (fun hm=>?_) (aag _ e),rfl,q⟩
  rw [aap.mp hm] at e
  exact adJ _ (aaA e)
end
end L2
namespace Bk
open PySem L2 cE
theorem ow:∀{l:List Bool} {ys:List V},Paired (fun b y=>y=V.bl b) l ys->ys=l.map V.bl
 | _,_,.nil=>rfl
 | _,_,.cons h r=>by rw [abw,<- ow r,h]
theorem Xj (a f:Fc):eqT (fT a) (fT f)=decide (a=f):=by
 have z:=wL [a] f
 simp only [abw,adK,aeu,List.any_nil,Bool.or_false,aap] at z
 rw [z]
 exact decide_eq_decide.mpr ⟨fun e=>e.symm,fun e=>e.symm⟩
theorem wY (l:List Fc) (f:Fc):((l.map fT).countP fun a=>eqT a (fT f))=l.countP fun a=>decide (a=f):=by
 rw [List.countP_map]
 refine List.countP_congr fun a _=>?_
 show(eqT (fT a) (fT f))=true↔_
 rw [Xj]
theorem ip (f:Fc):(fT f).toD.deep<=8:=by
 unfold fT
 rw [Ba]
 decide
noncomputable def stepT (n:Int) (ns:List Cs):List Tr:=[.int n,.tup ((ns.map S).map .str)]
theorem mP.Se {K:aaa} {H:Hp} {v:V} {n:Int} {ns:List Cs} (h:mP K H v n ns):jm K H (Tr.tup (stepT n ns)).toD v:=by
 obtain⟨p,t,rfl,h1,h2⟩:=h
 rw [pK] at h2
 show jm K H (.tup [.int n,(Tr.tup ((ns.map S).map .str)).toD]) (.ref p)
 refine .tup h1 rfl fun i i1 i2=>?_
 match i,i1,i2 with
 | 0,_,_=>exact .int _
 | 1,_,_=>exact L2.mI h2
theorem sU (n:Int) (ns:List Cs):(Tr.tup (stepT n ns)).toD.deep<=18:=by
 show max 0 (max (Dt.gI (Tr.toDs ((ns.map S).map .str))+1) 0)+1<=18
 rw [sN]
 decide
theorem wX.shown {n:Int} {ns:List Cs} (h:wX n ns):(toP (.tup (stepT n ns))).showable=true/\(toP (.tup (stepT n ns))).shown.length<=1000000:=by
 obtain⟨h1,h2,B⟩:=h
 obtain⟨G,J,L⟩:=wK (ns.map S) fun a ha=>by obtain⟨b,F,rfl⟩:=aaw.mp ha;exact(B b F).shw
 have y:=PyProof.Rows.int_text_len_1921 h1
 constructor
 ·show(decide (n.natAbs.log2<1920) && (aid (toPs ((ns.map S).map .str)) && true))=true
  rw [G,decide_eq_true h1]
  rfl
 ·show(tupleText [aad (toString n),tupleText (ad0 (toPs ((ns.map S).map .str)))]).length<=1000000
  have z:=tupleText_len_le [aad (toString n),tupleText (ad0 (toPs ((ns.map S).map .str)))]
  have q:=tupleText_len_le (ad0 (toPs ((ns.map S).map .str)))
  simp only [abw,adK,aic,List.sum_nil,aal,abN] at z
  rw [L] at q
  rw [Lm9] at J q
  omega(config:={})
def sZ (K:aaa):Sp:=fun vs H Q _=>∃(c:Int) (l:aay) (ms:List Int),vs=[.int c,.ref l]/\aC K H l (ms.map V.int)/\ms.length<=10/\(∀m∈ms,0<m/\m<=1000000) /\
 ∀(p:aay) (ds:List Int) (H':Hp),ah H H'->H p=none->H' p=some (.lst (ds.map V.int))->Paired (fun m d:Int=>0<=d/\d<m) ms ds->Q (.ref p) H'
theorem aM {ms ds:List Int} (h:Paired (fun m d:Int=>0<=d/\d<m) ms ds) {k:Nat} {m:Int} (hm:ms[k]?=some m):∃n:Nat,r6 (ds.map V.int) (k:Int)=some (.int (n:Int))/\(n:Int)<m:=by
 obtain⟨hk,e⟩:=aaf.mp hm
 have hl:=aai h
 have z:=paired_at h k hk (by omega)
 rw [e] at z
 refine⟨(ds[k]'(by omega)).toNat,?_,by omega⟩
 rw [show(((ds[k]'(by omega)).toNat:Nat):Int)=ds[k]'(by omega) by omega]
 exact bE (by rw [abc,Ge9 (by omega)];rfl)
def vI (K:aaa):Sp:=fun vs H Q _=>∃(lk la:aay) (n:Int) (ks:List Kd) (ns:List Cs),vs=[.ref lk,.int n,.ref la]/\pL K H lk ks/\1<=ks.length/\ks.length<=100/\(∀k∈ks,k.c<=4)/\H la=some (.lst (ns.map tx))/\1<=ns.length/\ns.length<=100 /\
 ∀(v:V) (f:Fc) (H':Hp),ah H H'->Fact K H' f v->Bm ks ns f->Q v H'
def Ol (K:aaa):Sp:=fun vs H Q _=>∃(v:V) (g:Fc),vs=[v]/\Fact K H g v/\FN g/\∀H',ah H H'->Q (tx (bJ g)) H'
def Bq (K:aaa):Sp:=fun vs H Q _=>∃c:Int,vs=[.int c]/\∀(p:aay) (ks:List Kd) (H':Hp),ah H H'->H p=none->pL K H' p ks->KG ks->Q (.ref p) H'
def Br (K:aaa):Sp:=fun vs H Q _=>∃(lk la:aay) (c:Int) (ks:List Kd) (ns:List Cs),vs=[.ref lk,.int c,.ref la]/\pL K H lk ks/\KG ks/\H la=some (.lst (ns.map tx))/\1<=ns.length/\ns.length<=100 /\
 ∀(t a b:aay) (tk kp:List Fc) (H':Hp),ah H H'->bH K H' t [.ref a,.ref b]->jo K H' a tk->jo K H' b kp->H a=none->H b=none->tk.length<=2->kp.length<=2->1<=tk.length+kp.length->(∀f∈tk,Bm (ks.filter Po) ns f)->(∀f∈kp,Bm ks ns f)->Q (.ref t) H'
def uY (a:Cs):Prop:=aI a=true/\great a=decide (a.headD 0=78)
def tf (K:aaa):Sp:=fun vs H Q _=>∃(lf:aay) (fs:List Fc),vs=[.ref lf]/\jo K H lf fs/\fs.length<=100/\(∀f∈fs,f.as.length<=4/\∀a∈f.as,uY a) /\
 ∀(p:aay) (H':Hp),ah H H'->H p=none->H' p=some (.lst ((opens fs).map tx))->Q (.ref p) H'
def uA (K:aaa) (H:Hp) (k:Lk) (v:V):Prop:=∃t,v=.ref t/\bH K H t [tx (gg k.same),tx k.l,tx k.r]
theorem uA.sm {K:aaa} {H H':Hp} (s:ah H H') {k:Lk} {v:V} (h:uA K H k v):uA K H' k v:=by
 obtain⟨t,e,h⟩:=h
 exact⟨t,e,h.same s⟩
def Hv (K:aaa) (H:Hp) (l:aay) (ks:List Lk):Prop:=∃vs,H l=some (.lst vs)/\Paired (uA K H) ks vs
theorem Hv.sm {K:aaa} {H H':Hp} (s:ah H H') {l:aay} {ks:List Lk} (h:Hv K H l ks):Hv K H' l ks:=by
 obtain⟨vs,h1,h2⟩:=h
 exact⟨vs,s _ _ h1,dU h2 fun _ _ _=>uA.sm s⟩
def Bs (K:aaa):Sp:=fun vs H Q _=>∃(ln:aay) (c:Int) (ns:List Cs),vs=[.ref ln,.int c]/\H ln=some (.lst (ns.map tx))/\1<=ns.length/\ns.length<=100 /\
 ∀(p:aay) (ks:List Lk) (H':Hp),ah H H'->H p=none->Hv K H' p ks->ks.length<=2->(∀k∈ks,k.l∈ns/\k.r∈ns)->Q (.ref p) H'
def UC (K:aaa) (H:Hp) (v:V) (r:Rl):Prop:=∃t a b l g p,v=.ref t/\bH K H t [.ref a,.ref b,.ref l,.ref g,.ref p]/\jo K H a r.take/\jo K H b r.keep/\Hv K H l r.aT/\jo K H g r.put/\Cp K H p r.tell
theorem UC.sm {K:aaa} {H H':Hp} (s:ah H H') {v:V} {r:Rl} (h:UC K H v r):UC K H' v r:=by
 obtain⟨t,a,b,l,g,p,e,h0,h1,h2,q,z,B⟩:=h
 exact⟨t,a,b,l,g,p,e,h0.same s,h1.sm s,h2.sm s,q.sm s,z.sm s,B.sm s⟩
def Pq (K:aaa) (H:Hp) (lr:aay) (v:V) (r:Rl):Prop:=∃t a b l g p,v=.ref t/\bH K H t [.ref a,.ref b,.ref l,.ref g,.ref p]/\jo K H a r.take/\jo K H b r.keep/\Hv K H l r.aT/\jo K H g r.put/\Cp K H p r.tell/\a≠lr/\b≠lr/\l≠lr/\g≠lr/\p≠lr
theorem Pq.x {K:aaa} {H:Hp} {lr:aay} {v:V} {r:Rl} (h:Pq K H lr v r):UC K H v r:=by
 obtain⟨t,a,b,l,g,p,e,h0,h1,h2,q,z,B,_⟩:=h
 exact⟨t,a,b,l,g,p,e,h0,h1,h2,q,z,B⟩
theorem Pq.sm {K:aaa} {H H':Hp} (s:ah H H') {lr:aay} {v:V} {r:Rl} (h:Pq K H lr v r):Pq K H' lr v r:=by
 obtain⟨t,a,b,l,g,p,e,h0,h1,h2,q,z,B,n⟩:=h
 exact⟨t,a,b,l,g,p,e,h0.same s,h1.sm s,h2.sm s,q.sm s,z.sm s,B.sm s,n⟩
theorem jo.upd {K:aaa} {H:Hp} {lr a:aay} {xs:List V} {o:HO} {fs:List Fc} (hr:H lr=some (.lst xs)) (h:jo K H a fs) (n:a≠lr):jo K (upd H lr o) a fs:=by
 obtain⟨vs,h1,h2⟩:=h
 exact⟨vs,by rw [aD n];exact h1,L2.Paired.bA h2 fun _ _ ⟨t,q,e,z,B⟩=>⟨t,q,e,cu hr z,cu hr B⟩⟩
theorem Pq.upd {K:aaa} {H:Hp} {lr:aay} {xs:List V} {o:HO} (hr:H lr=some (.lst xs)) {v:V} {r:Rl} (h:Pq K H lr v r):Pq K (upd H lr o) lr v r:=by
 obtain⟨t,a,b,l,g,p,e,h0,h1,h2,⟨lv,F,q⟩,G,⟨pv,J,B⟩,n1,n2,n3,n4,n5⟩:=h
 exact⟨t,a,b,l,g,p,e,cu hr h0,h1.upd hr n1,h2.upd hr n2,⟨lv,by rw [aD n3];exact F,L2.Paired.bA q fun _ _ ⟨t,e,z⟩=>⟨t,e,cu hr z⟩⟩,G.upd hr n4,⟨pv,by rw [aD n5];exact J,L2.Paired.bA B fun _ _ ⟨t,e,z⟩=>⟨t,e,cu hr z⟩⟩,n1,n2,n3,n4,n5⟩
def Ft (K:aaa):Sp:=fun vs H Q _=>∃(lk la lw:aay) (q z:Int) (ks:List Kd) (as os ws:List Cs),vs=[.ref lk,.int q,.int z,.ref la,.ref lw]/\pL K H lk ks/\KG ks/\H la=some (.lst (as.map tx))/\1<=as.length/\as.length<=10/\(∀a∈as,a∈os++ws)/\H lw=some (.lst (ws.map tx))/\1<=ws.length/\ws.length<=10/\os.length<=10/\(∀n∈os++ws,uY n) /\
 ∀(v:V) (r:Rl) (H':Hp),ah H H'->(∀lr o,H lr=some o->Pq K H' lr v r)->QJ ks os ws r->Sl 2 r->Q v H'
def Fu:Sp:=fun vs H Q _=>∃(w:Cs) (l:aay) (ms:List Cs),vs=[tx w,.ref l]/\H l=some (.lst (ms.map tx))/\w.length<=10/\ms.length<=10/\(∀m∈ms,m.length<=70) /\
 ∀(p:aay) (H':Hp),ah H H'->H p=none->H' p=some (.lst ((cC w ms).map tx))->Q (.ref p) H'
noncomputable def rT (i:Nat):Cs:=[114,48+i]
noncomputable def aR (rs:List Rl):List Rl:=rs.zipIdx.map fun x=>dR x.1 (rT x.2)
def Om (K:aaa) (H:Hp) (l:aay) (rs:List Rl):Prop:=∃vs,H l=some (.lst vs)/\Paired (fun r v=>UC K H v r) rs vs
theorem Om.sm {K:aaa} {H H':Hp} (s:ah H H') {l:aay} {ks:List Rl} (h:Om K H l ks):Om K H' l ks:=by
 obtain⟨vs,h1,h2⟩:=h
 exact⟨vs,s _ _ h1,dU h2 fun _ _ _=>UC.sm s⟩
def Fv (K:aaa):Sp:=fun vs H Q _=>∃(lk lr:aay) (ks:List Kd) (rs:List Rl),vs=[.ref lk,.ref lr]/\pL K H lk ks/\KG ks/\Om K H lr rs/\rs.length=2/\(∀r∈aR rs,Bj r)/\(∀r∈rs,Sl 2 r) /\
 ∀H',ah H H'->Q (tx (dh (ks.map aZ++(aR rs).map cV))) H'
structure wZ (ks:List Kd) (ns ws:List Cs) (rs:List Rl):Prop where
 kg:KG ks
 n4:ns.length=4
 w2:ws.length=2
 QR:∀n∈ns++ws,uY n
 ng:∀n∈ns,great n=true
 wg:∀n∈ws,great n=false
 nd:(ns++ws).Nodup
 r2:rs.length=2
 rd:∀r∈rs,QJ ks (ns.take 3) ws r
 few:∀r∈rs,Sl 2 r
def Fw (K:aaa):Sp:=fun vs H Q _=>∃(a:aay) (cs:List Int),vs=[.ref a]/\aC K H a (cs.map V.int) /\
 ∀(t lk ln lw lr:aay) (ks:List Kd) (ns ws:List Cs) (rs:List Rl) (H':Hp),ah H H'->bH K H' t [.ref lk,.ref ln,.ref lw,.ref lr]->pL K H' lk ks->H' ln=some (.lst (ns.map tx))->H' lw=some (.lst (ws.map tx))->Om K H' lr rs->wZ ks ns ws rs->Q (.ref t) H'
def Hw:Sp:=fun vs H Q _=>∃(n:Cs) (d:aay) (st:uw),vs=[tx n,.ref d]/\H d=some (.dK (st.map fJ))/\Q (tx (gM st n)) H
def Hx (K:aaa):Sp:=fun vs H Q _=>∃(d:aay) (v:V) (st:uw) (f:Fc),vs=[v,.ref d]/\H d=some (.dK (st.map fJ))/\Fact K H f v/\f.as.length<=1000/\∀q H',ah H H'->JI H' (wr st f) q->Q q H'
def Bt (K:aaa):Sp:=fun vs H Q _=>∃(d:aay) (v:V) (st:uw) (k:Lk),vs=[v,.ref d]/\H d=some (.dK (st.map fJ))/\uA K H k v/\uY (gM st k.l)/\uY (gM st k.r)/\Q (.bl (ji st k)) H
def Fx (K:aaa):Sp:=fun vs H Q _=>∃(lk:aay) (pv rv:V) (d:aay) (ks:List Kd) (dM cf:List Fc) (b:Bool) (r:Rl) (st:uw),vs=[.ref lk,pv,rv,.ref d]/\pL K H lk ks/\ks.length<=100/\qN K H pv dM cf b/\UC K H rv r/\H d=some (.dK (st.map fJ))/\Sl 100 r/\(∀f∈r.take++(r.keep++r.put),f.as.length<=1000) /\
 (∀k∈r.aT,uY (gM st k.l)/\uY (gM st k.r))/\∀H',ah H H'->Q (.bl (gS ks st r dM cf b)) H'
def Fy (K:aaa):Sp:=fun vs H Q _=>∃(lk lf ls:aay) (ks:List Kd) (fs:List Fc) (ps:List (Cs × Cs)),vs=[.ref lk,.ref lf,.ref ls]/\pL K H lk ks/\ks.length<=100/\jo K H lf fs/\fs.length<=60/\(∀f∈fs,FS f)/\Cp K H ls ps/\ps.length<=10 /\
 ∀(v:V) (dM cf:List Fc) (H':Hp),ah H H'->qN K H' v dM cf false->Q v H'
def QS (n:Int) (ns:List Cs) (q:Int) (ns':List Cs):Prop:=q<0\/2<=q\/(q=n/\ns'.length≠ns.length)
def w6 (K:aaa):Sp:=fun vs H Q _=>∃(sv:V) (w c:Int) (n:Int) (ns:List Cs),vs=[sv,.int w,.int c]/\mP K H sv n ns/\0<=n/\n<2/\ns.length<=50/\(∀x∈ns,Qx x) /\
 ∀(v:V) (q:Int) (ns':List Cs) (H':Hp),ah H H'->mP K H' v q ns'->wX q ns'->QS n ns q ns'->Q v H'
def uB (K:aaa) (c:Cl):Sp:=fun vs H Q _=>∃(H0:Hp) (bv pv sv:V) (ks:List Kd) (rs:List Rl) (dM cf:List Fc) (b:Bool) (n:Int) (ns:List Cs),vs=[bv,pv,sv]/\we K c H0 H ks rs bv/\qN K H pv dM cf b/\mP K H sv n ns/\wX n ns/\rs.length<=1000/\ks.length<=1000/\(∀r∈rs,Bj r)/\(∀r,¬ stepOk rs n ns r)/\∀H',ah H H'->Q (.bl true) H'
end Bk
namespace L2
open PySem PySem.Spec PyProof.Rows
section
variable {X:Cx} {pins:List (aay × Obj)} {σ:St} {H:Hp} {s:aah}
theorem Oo {A:abP} {R:Result->aah->Prop} {b:Bool} {a z TI TO i1 i2 l1 l2:aay} {ys:List V} {QT dF:List aae} {ps:List (Key × V)} (I:Inv X pins σ H s) (hh:A.handled=none) (mj:s.heap.IsList l1 QT.toArray) (gW:QO s.heap b l2 dF.toArray)
  (rv1:Vals (ps.map fun p=>kV p.1) QT) (Sn:Vals ys dF) (e2:ys.take ps.length=ps.map (·.2)) (hlen:ps.length<=100000) (D:ZD z TI TO i1 i2 l1 l2 a)
  (fr:s.heap.objs.size<=a/\s.heap.objs.size<=z/\s.heap.objs.size<=TO/\s.heap.objs.size<=i1/\s.heap.objs.size<=i2)
  (fin:∀h' tk vs,(∀b o,s.heap.get? b=some o->h'.get? b=some o)->h'.DictOf (bh X.prog X.w) a vs->KV (cR [] ps) vs->R (.ok (.ret .none)) { s with heap:=h',toks:=tk }) :
  ∀(k i:Nat) (h':Heap) (tk:Nat) (vs:List (Key × aae)),ps.length - i=k->i<=ps.length->(∀b o,s.heap.get? b=some o->h'.get? b=some o)->Of h' b z TI TO i1 i2 l1 l2 a i->h'.DictOf (bh X.prog X.w) a vs->KV (cR [] (ps.take i)) vs ->
   aby (model X.prog X.w) A.in1 (Builtin.«dict.update.loop» ⟨[.ref a,.ref z,rawInt (i:Int),.none],[]⟩) (fun fin s'=>match fin with|.done f=>R (.ok f) s'|.again c'=>c'.quiet=true/\codeAny (model X.prog X.w) A c' R s') (fun e s'=>R (.error e) s') { s with heap:=h',toks:=tk }:=by
 obtain⟨fa,fz,fo,f1,f2⟩:=fr
 have Ec:=rv1.length
 rw [Lm9] at Ec
 have lt:∀b o,s.heap.get? b=some o->b≠a/\b≠z/\b≠TO/\b≠i1/\b≠i2:=fun b o q=>by
  have h0:=aaA q
  exact⟨abj (aa6 h0 fa),abj (aa6 h0 fz),abj (aa6 h0 fo),abj (aa6 h0 f1),abj (aa6 h0 f2)⟩
 intro k
 induction k with
 | zero =>
  intro i h' tk vs hk hi kp Y J B
  obtain rfl:i=ps.length:=by omega
  unfold Builtin.«dict.update.loop»
  dsimp only [rawInt]
  refine aac (Cr (s:={ s with heap:=h',toks:=tk }) (A:=A.in1) hh D Y (mj.at fun o q=>kp _ o q) (by simp;omega) fun h2 Vt=>?_)
  dsimp only
  have ud:h2.DictOf (bh X.prog X.w) a vs:=by
   obtain⟨o,es,ep,F,r⟩:=J
   exact⟨o,es,ep,Vt _ _ D.za.symm D.TOa.symm D.i1a.symm D.i2a.symm F,r⟩
  show aby _ _ (ag1 a [] >>= _) _ _ _
  refine aac (aav (aav ?_))
  exact fin h2 tk vs (fun b o q=>Vt b o (lt b o q).2.1 (lt b o q).2.2.1 (lt b o q).2.2.2.1 (lt b o q).2.2.2.2 (kp b o q)) ud (by rw [abM] at B;exact B)
 | succ k ih =>
  intro i h' tk vs hk hi kp Y J B
  have TX:i<ps.length:=by omega
  have a3:i<QT.length:=by omega
  have G:i<ys.length:=by
   have z:=congrArg adO e2
   rw [aat,Lm9] at z
   omega
  have ZF:i<dF.length:=by have:=Sn.length;omega
  have eyi:ys[i]=(ps[i]).2:=by
   have z:(ys.take ps.length)[i]?=(ps.map (·.2))[i]?:=by rw [e2]
   rw [agR,if_pos TX,abc,Ge9 G,Ge9 TX] at z
   exact abA z
  obtain⟨u1,g1,q1⟩:=rv1.get (i:=i) (x:=kV (ps[i]).1) (by rw [abc,Ge9 TX];rfl)
  obtain⟨u2,g2,q2⟩:=Sn.get (i:=i) (x:=ys[i]) (by simp [G])
  have eu1:QT[i]=u1:=(aaf.mp g1).2
  have WG:dF[i]=u2:=(aaf.mp g2).2
  rw [eyi] at q2
  have a2:a<h'.objs.size:=by
   obtain⟨o,es,ep,F,r⟩:=J
   exact aaA F
  unfold Builtin.«dict.update.loop»
  dsimp only [rawInt]
  refine aac (zx (s:={ s with heap:=h',toks:=tk }) (x:=u1) (y:=u2) D a2 Y (mj.at fun o q=>kp _ o q) (gW.at fun o q=>kp _ o q) (by simp [a3,eu1]) (by simp [ZF,WG]) fun h1 T Z hT Zc Qq=>?_)
  dsimp only
  have R1:∀b o,s.heap.get? b=some o->h1.get? b=some o:=fun b o q=>Qq b o (lt b o q).2.1 (lt b o q).2.2.1 (lt b o q).2.2.2.1 (lt b o q).2.2.2.2 (kp b o q)
  have R4:h1.DictOf (bh X.prog X.w) a vs:=by
   obtain⟨o,es,ep,F,r⟩:=J
   exact⟨o,es,ep,Qq _ _ D.za.symm D.TOa.symm D.i1a.symm D.i2a.symm F,r⟩
  have O:Shared.TypeIs { s with heap:=h1,toks:=tk } (.ref T) "tuple":=⟨_,hT,rfl⟩
  refine aac (wpAny_holding (aac ?_))
  have a4:∀{E':aae->aah->Prop} {L:List aae->aah->Prop},L [u1,u2] { s with heap:=h1,toks:=tk }->aby (model X.prog X.w) A.in1 (aeh (.ref T)) L E' { s with heap:=h1,toks:=tk }:=fun {E' L} a5=>by
   unfold aeh
   refine aac (wpAny_typeOf O ?_)
   rw [if_pos (by decide)]
   refine aac (wpAny_seqItems hT rfl (aav ?_))
   exact a5
  refine wpAny_tryCatch (a4 ?_)
  dsimp only
  have hsz:vs.length<=aaj:=by
   have z:=B.length
   have z2:=ki (ps.take i)
   rw [aat] at z2
   exact ab0 (show vs.length<=100000 by omega) (show 100000<=aaj by rw [aaz];decide)
  refine wpAny_holding (wpAny_dictSet_pairs (hsz:=hsz) (uc q1) R4 fun h2 ud Nd=>?_)
  have Kz:∀b o,s.heap.get? b=some o->h2.get? b=some o:=fun b o q=>(Nd.2 b (lt b o q).1).trans (R1 b o q)
  have a1:=Z.ext D fun c o hc e=>(Nd.2 c hc).trans e
  refine aav ?_
  refine⟨plainId_quiet plain_dul _,codeAny_builtin entry_dul ?_⟩
  rw [aeD plain_dul _]
  refine ih (i+1) h2 (tk+1) _ (by omega) (by omega) Kz a1 ud ?_
  rw [aao TX]
  unfold cR
  rw [aez]
  exact B.put _ q2
end
section
variable {X:Cx}
theorem Oq (N l1 l2:Nat) (h1:l1<N) (h2:l2<N):ZD (N+4) (N+2) (N+3) N (N+1) l1 l2 (N+5):=by
 constructor <;> (refine neA ?_;omega)
def Ot (K:aaa) (tl tm:TE):TE:=fun σ H Q=>tl σ H fun x H1=>tm σ H1 fun y U=>∃(a b:aay) (ys:List V) (ps:List (Key × V)),x=.ref a/\y=.ref b/\aC K U a (ps.map fun p=>kV p.1)/\(aC K U b ys\/bH K U b ys)/\ys.take ps.length=ps.map (·.2)/\ps.length<=100000/\∀d,U d=none->Q (.ref d) (upd U d (.dK (cR [] ps)))
theorem w9 {l m:Expr} {tl tm:TE} {p1 p2 c1 B:Pos} (hc:X.calm=true) (hl:PE X l tl) (O:PE X m tm) (gD:Gl X "dict") (mD:X.mg "dict"=none) (bD:bootBuiltins "dict"=some (.type "dict")) (gZ:Gl X "zip") (mZ:X.mg "zip"=none) (bZ:bootBuiltins "zip"=some (.type "zip"))
  (he:autoParam (starEach [l,m] X.env=(false,eval l X.env)::starEach [m] X.env) z0._auto_1) (Zo:autoParam (starEach [m] X.env=(false,eval m X.env)::starEach [] X.env) z0._auto_1)
  (h2:autoParam (starEach [.Call (.Name "zip" p2) [l,m] [] B] X.env=(false,eval (.Call (.Name "zip" p2) [l,m] [] B) X.env)::starEach [] X.env) z0._auto_1) :
  PE X (.Call (.Name "dict" p1) [.Call (.Name "zip" p2) [l,m] [] B] [] c1) (Ot X.K tl tm):=by
 intro pins s σ H Q I h
 have hh:=I.ok.hd hc
 refine wpAny_Call_Name_kw (pA I gD mD bD ?_ (by decide) (by decide))
 refine ac2 ?_ h2 rfl
 rw [h2]
 refine af6 ?_
 refine wpAny_Call_Name_kw (pA I gZ mZ bZ ?_ (by decide) (by decide))
 have WN:PA X [l,m] (vQ tl (vQ tm GN)):=aa hl (aa O af Zo) he
 refine ac2 (thn (WN B pins s σ H (fun vs H1=>match vs with|[x,y]=>∃(a b:aay) (ys:List V) (ps:List (Key × V)),x=.ref a/\y=.ref b/\aC X.K H1 a (ps.map fun p=>kV p.1)/\(aC X.K H1 b ys\/bH X.K H1 b ys)/\ys.take ps.length=ps.map (·.2)/\ps.length<=100000/\∀d,H1 d=none->Q (.ref d) (upd H1 d (.dK (cR [] ps)))|_=>False) I h) fun us s1 Zq=>?_) he (by rw [Zo];rfl)
 obtain⟨vs,H1,I1,Z,q1⟩:=Zq
 match vs,Z,q1 with
 | [x,y],Z,⟨l1,l2,ys,ps,ex,ey,hq,Xk,e2,hlen,q⟩ =>
  subst ex ey
  obtain⟨u,u2,rfl,ru,ru2⟩:=vals2 Z
  cases ru
  cases ru2
  obtain⟨its,rv,p,hz⟩:=I1.list hq
  obtain⟨b,dF,Sn,BU⟩:∃(b:Bool) (dF:List aae),Vals ys dF/\QO s1.heap b l2 dF.toArray:=by
   rcases Xk with Xk|Xk
   ·obtain⟨dF,Sn,p2,_⟩:=I1.list Xk
    exact⟨false,dF,Sn,p2.isList⟩
   ·obtain⟨dF,Sn,p2,_⟩:=I1.tuple Xk
    exact⟨true,dF,Sn,p2⟩
  have ha:l1<s1.heap.objs.size:=by
   obtain⟨_,e,_⟩:=p.isList
   exact aaA e
  have hb:l2<s1.heap.objs.size:=by
   cases b with
   | false=>obtain⟨_,e,_⟩:=BU;exact aaA e
   | true=>obtain⟨_,e,_⟩:=BU;exact aaA e
  refine Hs p.isList BU fun h1 z hZ B6 Qq=>?_
  refine agY ?_
  generalize G:s1.heap.objs.size=N at ha hb z hZ B6 ⊢
  have B5:(h1.push { cls:=.type "dict",data:=.dict #[] }).DictOf (bh X.prog X.w) h1.objs.size []:=ahx h1
  refine callType_codes (Q₁:=fun obj s₁=>obj=.ref h1.objs.size/\s₁={ s1 with heap:=h1.push { cls:=.type "dict",data:=.dict #[] } }) ahm (agG _) ahd (kt_code_dict_new _ ⟨rfl,rfl⟩) ?_
  rintro obj s₁ ⟨rfl,rfl⟩
  refine⟨B5.typeIs,ag2 _ _,?_⟩
  unfold Builtin.«dict.__init__»
  refine aac ?_
  unfold ag3
  refine aac (wpAny_notOrdered_dict B5.typeIs ?_)
  show aby _ _ (pure (h1.objs.size,[abF (N+4)])) _ _ _
  refine aav ?_
  show aby _ _ (ad7 "dict.__init__" h1.objs.size (.ref (N+4)) [] .none) _ _ _
  unfold ad7
  have TY:=aag { cls:=.type "dict",data:=.dict #[] } z
  refine aac (wpAny_typeOf (T:="zip") ⟨_,TY,rfl⟩ ?_)
  rw [if_pos (by decide)]
  refine aac (KW TY hh fun F tk3 e J=>?_)
  rw [if_pos (show(none:Option aae).isNone=true from rfl)]
  refine aac (wpAny_rule ?_)
  have L:F.DictOf (bh X.prog X.w) h1.objs.size []:=by
   obtain⟨o,es,ep,ho,r⟩:=B5
   exact⟨o,es,ep,J.keeps _ _ ho,r⟩
  have Y:=J.keeps _ _ TY
  refine aac (wpAny_pyIter_zip (s:={ s1 with heap:=F,toks:=tk3 }) Y ?_)
  refine aav ⟨plainId_quiet plain_dul _,codeAny_builtin entry_dul ?_⟩
  rw [aeD plain_dul _]
  have kp0:∀b o,s1.heap.get? b=some o->F.get? b=some o:=fun b o q=>J.keeps _ _ (aag _ (Qq _ _ q))
  have D:ZD (N+4) (N+2) (N+3) N (N+1) l1 l2 h1.objs.size:=by
   rw [B6]
   exact Oq N l1 l2 ha hb
  refine Oo (A:=X.A.in1) (s:=s1) (a:=h1.objs.size) (ps:=ps) I1 hh p.isList BU rv Sn e2 hlen D (by rw [G,B6];omega) (fun h' tk vs kp hD hK=>?_)
   ps.length 0 F tk3 [] (by omega) (ab4 _) kp0 ((hZ h1.objs.size).ext D fun c o _ e=>J.keeps _ _ (aag _ e)) L .nil
  have hfree:H1 h1.objs.size=none:=I1.hok.fresh (by rw [G,B6];omega)
  refine⟨rfl,.ref h1.objs.size,upd H1 h1.objs.size (.dK (cR [] ps)),I1.laid (t':=tk) kp (by rw [G,B6];omega) ?_,rfl,q _ hfree⟩
  refine⟨ab0 (ki ps) (ab0 hlen (by rw [aaz];decide)),?_,vs,hK,hD⟩
  exact beq_eq_false_iff_ne.mpr (adz (aa6 I1.big (by rw [G,B6];omega)))
end
def Xl (K:aaa) (C:aae) (i:Nat) (tb:(aae->St->Hp->Prop)->TS) (ts:aay->aae->TS) (tr:TS) (tq:aay->aae->TS):TS:=fun D σ H=>tb (fun cls σ' H'=>ahM K cls C=some true /\
 ∀x,ts x cls { nx:=fun σ H=>tq x cls D (σ.set i none) H,rt:=D.rt,bk:=fun σ H=>D.bk (σ.set i none) H,ct:=fun σ H=>D.ct (σ.set i none) H } (σ'.set i (some (.ref x))) H') { D with nx:=fun σ H=>tr D σ H } σ H
theorem Ou {X:Cx} {body a9:List Stmt} {C:aae} {nm n:Str} {i:Nat} {np pos ab9:Pos} {b₀:Stmt} {bd:List Stmt} {tb:(aae->St->Hp->Prop)->TS} {ts:aay->aae->TS} {tr:TS} {tq:aay->aae->TS}
  (hb:∀pn R,AG (qp X pn R) body (tb R)) (hN:X.N.Nodup) (hi:X.N[i]?=some n) (Z:X.env.scope.names.lookup n=some .local) (hg:Gl X nm) (hm:X.mg nm=some C)
  (hs:∀a oe cls,oe.cls=cls->aeK oe=true->AG (iH X a oe) (b₀::bd) (ts a cls)) (hr:AG X a9 tr) (hq:∀a oe cls,oe.cls=cls->aeK oe=true->AG (G2 X [(a,oe)]) a9 (tq a cls))
  (yS:autoParam ((nm == ("__debug__":Str))=false) z1._auto_1) (vM:autoParam (X.stack=X.env::X.outer) z0._auto_1) (Gx:autoParam (X.env.frame=some X.env.locals) z0._auto_1) (a5:autoParam (X.ex=[]) z0._auto_1) (Py:∀y,X.fn y=true:=by intro y;rfl) :
  AG X (.Try body [.ExceptHandler (some (.Name nm np)) (some n) (b₀::bd) pos] [] [] ab9::a9) (Xl X.K C i tb ts tr tq):=by
 intro pins s σ H D I h
 refine wpAny_execs_cons (wpAny_Try_except (wpAny_mono (hb pins _ [] s σ H _ (I.cx rfl I.ok.hd fun p q=>by rw [abI] at q;exact q) h) (fun fw s1 q=>?_) fun e s1 q=>?_))
 ·have q':SP X pins { D with nx:=fun σ H=>tr D σ H } fw s1:=SP.cx q fun σ' H' J=>J.cx (X:=qp X pins _) (A':=X.A) rfl I.ok.hd fun p z=>by rw [abI];exact z
  cases fw with
  | next =>
   obtain⟨σ',H',J,q2⟩:=q'
   exact wpAny_execs_nil (hr pins s1 σ' H' D J q2)
  | brk=>exact q'
  | cont=>exact q'
  | ret u=>exact q'
 ·obtain⟨iD,σ',H1,s0,H',x,cls,G,rfl,F,hR⟩:=q
  obtain⟨B,a0,fl,hok,kp,trr⟩:=F.ex
  refine wpAny_looks_onW (base:=B) (outer:=X.outer) (L:=X.env.locals) (cls:=cls) (a0:=a0) (by rw [I.ok.frames,vM]) Gx (by rw [<- vM];exact fl) fun h1 held sm1=>?_
  refine wpAny_landsW held fun h2 fl2 tu=>?_
  have a2:H' x=none:=by
   cases e:H' x with
   | none=>rfl
   | some o =>
    obtain⟨u,hu⟩:=cL.has (hok x o e)
    rw [fl.2.1] at hu
    cases hu
  have L:Lit X pins σ' H' x cls B a0 { s1 with heap:=h2 }:=⟨by rw [vM];exact fl2,fun h3 JP S6=>by
   have J:Inv (G2 X pins) [] σ' H' { s1 with heap:=h3 }:=Inv.land (X:=G2 X pins) G (fun p z=>nomatch z) a5 Py ⟨vM,Gx⟩ F fl hok kp trr ((sm1.trans tu).trans JP) S6
   exact J.cx rfl I.ok.hd fun p z=>by rw [abI];exact z,a2⟩
  obtain⟨eb,ht⟩:=hR
  generalize ({ s1 with heap:=h2 }:aah)=s2 at L
  have I:Inv X pins σ' H' s2:=L.land s2.heap (Heap.UpToSlots.of_keeps fun _ _ q=>q) L.fl.1
  have Is:Inv (Jh X x) pins σ' H' s2:=I.cx rfl (fun z=>nomatch z) fun _ q=>q
  obtain⟨oe,he,hc⟩:=L.fl.there
  have lt:PySem.W.Looks (model X.prog X.w) s2.heap (typeOf (.ref x)) cls:=by
   subst hc
   exact(aho he).andThen .now
  refine wpAny_handleBy_cons (codeAny_handlers_test (nZ (X:=Jh X x) Is hg hm ((PySem.W.exm_one I.oE lt eb).here ?_) yS)) (by intro q;cases q)
  refine codeAny_handlers_suite_as (lands_againW L.fl fun h' fl' sm=>?_)
  have G:Inv X pins σ' H' { s2 with heap:=h' }:=L.land h' sm fl'.1
  obtain⟨Mq,vs',Y,a1,O,_⟩:=fl'.first
  have Xm:aeK Mq=true:=by
   unfold aeK
   rw [O]
  have acb:∀b∈jd X.stack,b≠x:=fun b hb e=>by
   obtain⟨_,o2,e2,a4⟩:=fl'.2.2.1.mem hb
   rw [e,Y] at e2
   cases e2
   exact absurd O (a4 _)
  have a3:x∉jd X.stack:=fun hm=>acb x hm rfl
  have acd:x≠X.env.locals:=fun e=>by
   obtain⟨m,⟨o,es,ep,ho,Mr,_⟩,_⟩:=G.loc
   have ho:h'.get? X.env.locals=some o:=ho
   rw [<- e,Y] at ho
   cases ho
   rw [O] at Mr
   cases Mr
  have P5:x∉X.fs:=fun hm=>by
   rcases I.ok.Vm with z|⟨z,_⟩
   ·exact a3 (by rw [z];exact hm)
   ·refine a3 ?_
    rw [z]
    unfold jd
    rw [ad6]
    split
    ·exact hm
    ·exact aam _ hm
  have I2:Inv (iH X x Mq) pins σ' H' { s2 with heap:=h' } :=
   ⟨G.ok.cx rfl (fun z=>nomatch z),G.os,G.bare,G.base,G.loc,G.cell,G.free,G.iC,(fun p hp=>by
    rcases aaq.mp hp with q|q
    ·rcases aaq.mp q with q|q
     ·exact G.pin p (aax _ q)
     ·have e:=aap.mp q
      subst e
      exact⟨Y,L.fr,acd,P5,fun v z=>by rw [O] at z;cases z⟩
    ·exact G.pin p (aak _ q)),G.hok,G.len⟩
  refine mn (X:=iH X x Mq) (v:=.ref x) I2 hN hi (.inl Z) rfl (fun s3 I3=>?_) (.inr Z)
  refine wpAny_mono (hs x Mq cls a1 Xm pins _ _ H' _ I3 (ht x)) (fun fw s4 q=>?_) fun _ _ z=>ac8 z
  have back:∀{σ':St} {H':Hp},Inv (iH X x Mq) pins σ' H' s4->Inv X pins σ' H' s4:=fun {σ' H'} J=>J.cx (X:=iH X x Mq) (A':=X.A) rfl I.ok.hd fun p z=>by
   rcases aaq.mp z with q|q
   ·exact aax _ (aax _ q)
   ·exact aak _ q
  have Xn:∀{σ':St} {H':Hp},Inv (iH X x Mq) pins σ' H' s4->Inv (G2 X [(x,Mq)]) pins σ' H' s4:=fun {σ' H'} J=>J.cx (X:=iH X x Mq) (A':=X.A) rfl I.ok.hd fun p z=>z
  dsimp only
  cases fw with
  | next =>
   obtain⟨σ3,H3,J,q⟩:=q
   refine vG (X:=G2 X [(x,Mq)]) (Xn J) hN hi Z fun s' V=>?_
   refine wpAny_mono (hq x Mq cls a1 Xm pins s' _ H3 D V q) (fun fw s5 q5=>?_) fun _ _ z=>z
   exact SP.cx q5 fun σ5 H5 J5=>J5.cx (X:=G2 X [(x,Mq)]) (A':=X.A) rfl I.ok.hd fun p z=>by
    rcases aaq.mp z with q|q
    ·exact aax _ (aax _ q)
    ·exact aak _ q
  | brk =>
   obtain⟨σ3,H3,J,q⟩:=q
   exact vG (back J) hN hi Z fun s' V=>⟨_,H3,V,q⟩
  | cont =>
   obtain⟨σ3,H3,J,q⟩:=q
   exact vG (back J) hN hi Z fun s' V=>⟨_,H3,V,q⟩
  | ret u =>
   obtain⟨v,σ3,H3,J,r,q⟩:=q
   exact vG (back J) hN hi Z fun s' V=>⟨v,_,H3,V,r,q⟩
section
variable {X:Cx} {x:aay} {oe:Obj} {cls:aae}
def So (K:aaa) (x:aay) (cls:aae):List V->Hp->VK->Prop:=fun xs H Q=>∃(t D:aay) (cs:List aay) (b:Bool),xs=[.ref x,.ref t]/\H t=some (.tup (cs.map V.ref))/\cls=.ref D/\PySem.W.ExcKit K D/\ahN K (.ref D) (cs.map abF)=some b/\Q (.bl b) H
theorem Bu:∀{cs:List aay} {us:List aae},Vals (cs.map V.ref) us->us=cs.map abF
 | [],_,r=>by rw [adK] at r;cases r;rfl
 | c::cs,_,r=>by
  rw [abw] at r
  cases r with
  | cons q r2 =>
   have e:_=abF c:=q
   rw [e,Bu r2]
   rfl
theorem K0 (L:(x,oe)∈X.pn) (G:oe.cls=cls) (B:aeK oe=true):fD X (.builtin "isinstance") (So X.K x cls):=by
 intro pins s σ H xs us Q I r h
 obtain⟨t,D,cs,b,rfl,O,e,Z,hk,q⟩:=h
 obtain⟨u,Y,rfl,rx,ru⟩:=vals2 r
 cases (show u=abF x from rx)
 cases (show Y=abF t from ru)
 have V:=(I.pin (x,oe) (aax _ L)).1
 obtain⟨its,rv,pl,_⟩:=I.tuple (bH.of (K:=X.K) O)
 have F:=Bu rv
 subst F
 obtain⟨⟨oc,od,dat,sl⟩,J,VX,n,hd⟩:=id pl
 simp only at VX hd
 subst VX hd
 exact PySem.W.kia_tup (PySem.W.kitx_exc (ox:=oe) Z) I.oE ⟨V,G.trans e,B⟩ J hk (by intro z;cases z) fun tk=>⟨.bl b,H,I.tok _,rfl,q⟩
end
end L2
namespace Bk
open PySem L2 cE
theorem pP:∀(l acc:List Cs),acc.Nodup->(once l acc).Nodup
 | [],_,h=>h
 | x::r,acc,h=>by
  show(once r (if x∈acc then acc else acc++[x])).Nodup
  split
  ·exact pP r acc h
  ·rename_i z
   refine pP r _ ?_
   rw [adC]
   refine⟨h,by simp,fun a ha b q e=>?_⟩
   rw [aap.mp q] at e
   exact z (e ▸ ha)
theorem mQ (fs:List Fc):(opens fs).Nodup:=pP _ _ ahO
theorem tw {r:Rl} {ns:List Cs} (h:ns.length=(opens (r.take++r.keep)).length):(b8 r ns).map (·.1)=opens (r.take++r.keep):=by
 unfold b8
 rw [List.map_fst_zip (by omega)]
theorem K1 {r:Rl} {ns:List Cs} (h:ns.length=(opens (r.take++r.keep)).length):(b8 r ns).map (·.2)=ns:=by
 unfold b8
 rw [List.map_snd_zip (by omega)]
theorem JQ {r:Rl} {ns:List Cs} (h:ns.length=(opens (r.take++r.keep)).length):(((b8 r ns).map fJ).map fun p=>kV p.1)=(opens (r.take++r.keep)).map tx:=by
 rw [<- tw h,abY,abY]
 rfl
theorem Ov {r:Rl} {ns:List Cs} (h:ns.length=(opens (r.take++r.keep)).length):(ns.map tx).take ((b8 r ns).map fJ).length=((b8 r ns).map fJ).map (·.2):=by
 have e:((b8 r ns).map fJ).map (·.2)=ns.map tx:=by
  rw [<- congrArg (List.map tx) (K1 h),abY,abY]
  rfl
 rw [e]
 have z:=congrArg adO e
 rw [Lm9] at z
 rw [z,abM]
theorem Fz {r:Rl} {ns:List Cs}:(b8 r ns).length<=ns.length:=by
 unfold b8
 rw [List.length_zip]
 omega
theorem xa {r:Rl} {ns:List Cs} (h:ns.length=(opens (r.take++r.keep)).length):cR [] ((b8 r ns).map fJ)=(b8 r ns).map fJ:=by
 rw [ku _ _ ?_,aca]
 rw [aca]
 have e:((b8 r ns).map fJ).map (·.1)=(opens (r.take++r.keep)).map fun x=>(abx (S x):Key):=by
  rw [<- tw h,abY,abY]
  rfl
 rw [e]
 have z:=mQ (r.take++r.keep)
 unfold List.Nodup at z ⊢
 rw [agj]
 exact z.imp fun q e=>q (oK (agh e))
theorem QU {st:uw} {n v:Cs} (h:KQ st n=some v):v∈st.map (·.2):=by
 unfold KQ at h
 obtain⟨e,h1,h2⟩:=adG.mp h
 rw [<- h2]
 exact adh (List.mem_of_find?_eq_some h1)
theorem Hy (st:uw) (n:Cs):gM st n=n\/gM st n∈st.map (·.2):=by
 unfold gM
 cases h:KQ st n with
 | none=>exact .inl rfl
 | some v=>exact .inr (QU h)
theorem JR {r:Rl} {ns:List Cs} {v:Cs} (h:v∈(b8 r ns).map (·.2)):v∈ns:=by
 obtain⟨e,q,rfl⟩:=aaw.mp h
 exact(agv (show(e.1,e.2)∈_ from q)).2
end Bk
namespace L2
open PySem PySem.Spec PyProof.Rows
section
variable {X:Cx} {es:List Expr} {pos:Pos} {t:TA}
def Xo (t:TA):TE:=fun σ H Q=>t σ H fun xs H1=>xs.length<=aaj/\∀p its n sl,H1 p=none->Q (.ref p) (upd H1 p (.jY ⟨.type "tuple",none,.seq its n,sl⟩ (.tup xs)))
theorem Ct {x1} (h:PA X es t):PE X (.Tuple es x1 pos) (Xo t):=by
 intro pins s σ H Q I F
 refine wpAny_Tuple_spliced (thn (h pos pins s σ H _ I F) fun us s1 ⟨xs,H1,I1,r,z,q⟩=>⟨by rw [<- r.length];exact z,?_⟩)
 have B:H1 s1.heap.objs.size=none:=I1.hok.fresh (aar _)
 have I2:=I1.laid (a:=s1.heap.objs.size) (o:=.jY { cls:=.type "tuple",data:=.seq us.toArray } (.tup xs)) (h':=s1.heap.push { cls:=.type "tuple",data:=.seq us.toArray }) (t':=s1.toks) (fun b o e=>aag _ e) (aar _) ⟨aa0 _ rfl,z,us,r,ah5 _ _⟩
 exact⟨.ref s1.heap.objs.size,_,I2,rfl,q _ _ _ _ B⟩
end
theorem xb {α:Type} {R:α->V->Prop} {fs:List α} {vs:List V} (h:Paired R fs vs) (lo hi:Option Int):∃gs,Paired R gs (fI vs lo hi)/\(∀g∈gs,g∈fs)/\gs.length<=fs.length:=by
 unfold fI
 refine⟨_,Bk.dw _ (Bk.mM _ h),fun g q=>aeF (abT q),?_⟩
 rw [aat,abO]
 omega
theorem JS {xs:List V} {m:Nat} (h:1+m<=xs.length):fI xs (some 1) (some ((1:Int)+(m:Int)))=(xs.drop 1).take m:=by
 unfold fI
 rw [show((1:Int)+(m:Int))=((1+m:Nat):Int) by omega,show(some (1:Int))=some ((1:Nat):Int) from rfl,HT.oa,HT.oa,agy h,agy (by omega)]
 congr 1
 omega
end L2
namespace Bk
open PySem L2 cE
theorem QV {xs:List Mt} (h:∀m∈xs,m.Ok):Zy xs (xs.map Mt.txt):=by
 refine⟨xs.map fun m=>(m.txt,m.it),by rw [abY];rfl,?_,fun x q=>?_,fun l hl=>?_⟩
 ·rw [List.filter_eq_self.mpr,abY]
  ·rfl
  ·intro l hl
   obtain⟨m,hm,rfl⟩:=aaw.mp hl
   have z:=Mt.line (h m hm)
   exact QI z.1 z.2.2.2
 ·obtain⟨m,hm,rfl⟩:=aaw.mp q
  have z:=Mt.line (h m hm)
  exact⟨z.1,z.2.1⟩
 ·obtain⟨m,hm,rfl⟩:=aaw.mp hl
  exact N8 Um (Mt.line (h m hm)).1
theorem FA {i:Nat} (h:i<2):br (rT i)=true:=by
 rcases(by omega:i=0\/i=1) with e|e <;> subst e <;> decide +kernel
theorem fU {rs:List Rl} (h:rs.length=2):∃a b,rs=[a,b]/\aR rs=[dR a (rT 0),dR b (rT 1)]:=by
 match rs,h with
 | [a,b],_=>exact⟨a,b,rfl,rfl⟩
theorem Cu {rs:List Rl} {i:Nat} (h:i<rs.length):(aR rs)[i]?=some (dR rs[i] (rT i)):=by
 unfold aR
 rw [abc,ahK,Ge9 h]
 simp
theorem wZ.nm {ks:List Kd} {ns ws:List Cs} {rs:List Rl} (h:wZ ks ns ws rs):∀n∈ns.take 3++ws,aI n=true:=fun n hn=>by
 rcases aaq.mp hn with z|z
 ·exact(h.QR n (aax _ (abT z))).1
 ·exact(h.QR n (aak _ z)).1
theorem iz (fs:List Fc):kn [] (fs.flatMap (·.as))=opens fs:=by
 unfold opens
 rw [gK]
 unfold eQ kn
 have e:(fun acc x=>jh x acc)=Cj:=by
  funext acc x
  unfold jh Cj
  rfl
 rw [e]
theorem wZ.Pp {ks:List Kd} {ns ws:List Cs} {rs:List Rl} (h:wZ ks ns ws rs):∀r∈aR rs,Bj r/\wz ks r:=fun r hr=>by
 obtain⟨a,b,rfl,e⟩:=fU h.r2
 rw [e] at hr
 simp only [aaK,adw,or_false] at hr
 rcases hr with rfl|rfl
 ·have d:=h.rd a (by simp)
  exact⟨d.Pp h.kg h.nm (FA (by decide)) (iz _),d.good h.kg h.nm h.wg (iz _)⟩
 ·have d:=h.rd b (by simp)
  exact⟨d.Pp h.kg h.nm (FA (by decide)) (iz _),d.good h.kg h.nm h.wg (iz _)⟩
theorem wZ.book {ks:List Kd} {ns ws:List Cs} {rs:List Rl} (h:wZ ks ns ws rs):(∀l∈ks.map aZ++(aR rs).map cV,10∉l)/\∃its,NL (ks.map aZ++(aR rs).map cV) its/\jR (its.map (·.2))=ks/\jS (its.map (·.2))=aR rs:=by
 have hok:∀m∈Oc false ks (aR rs),m.Ok:=Od h.kg fun r hr=>(h.Pp r hr).1
 have e:(Oc false ks (aR rs)).map Mt.txt=ks.map aZ++(aR rs).map cV:=by
  unfold Oc
  rw [if_neg (by decide),aau,abY,abY]
  rfl
 have L:=QV hok
 rw [e] at L
 refine⟨L.Uw,Uv L h.kg h.Pp ?_ ?_⟩
 ·obtain⟨a,b,rfl,e⟩:=fU h.r2
  rw [e]
  show [rT 0,rT 1].Nodup
  decide
 ·obtain⟨a,b,rfl,e⟩:=fU h.r2
  rw [e]
  simp
theorem wZ.len {ks:List Kd} {ns ws:List Cs} {rs:List Rl} (h:wZ ks ns ws rs):(dh (ks.map aZ++(aR rs).map cV)).length<=20000/\ks.map aZ++(aR rs).map cV≠[]:=by
 have hl:∀l∈ks.map aZ++(aR rs).map cV,l.length<=810:=fun l hl=>by
  rcases aaq.mp hl with z|z
  ·obtain⟨k,hk,rfl⟩:=aaw.mp z
   have h1:=(fh (h.kg.ok k hk).1).2
   unfold aZ
   rw [aab]
   have:(if k.l=true then bG else bF).length=7:=by cases k.l <;> rfl
   simp only [aal,aab,abN]
   omega
  ·obtain⟨r,hr,rfl⟩:=aaw.mp z
   have B:Sl 2 r:=by
    unfold aR at hr
    obtain⟨x,F,rfl⟩:=aaw.mp hr
    have z:x.1∈rs:=(List.mem_zipIdx' F).2 ▸ aan _
    exact h.few x.1 z
   have:=(h.Pp r hr).1.Ut (M:=2) B
   omega
 have hn:(ks.map aZ++(aR rs).map cV).length=6:=by
  obtain⟨a,b,rfl,e⟩:=fU h.r2
  rw [e,aab,Lm9,h.kg.len]
  rfl
 have J:=Bn (ks.map aZ++(aR rs).map cV)
 have q:=om hl
 rw [abY] at q
 have L:((ks.map aZ++(aR rs).map cV).map adO).sum<=6 * 810:=by
  have G:(List.map (fun x:Str=>x.length) (List.map S (ks.map aZ++(aR rs).map cV)))=(ks.map aZ++(aR rs).map cV).map adO:=by
   rw [abY]
   exact aeX fun l _=>aY l
  rw [<- G,abY,<- hn]
  exact q
 exact⟨by omega,fun e=>by rw [e] at hn;cases hn⟩
theorem wZ.UD {ks:List Kd} {ns ws:List Cs} {rs:List Rl} (h:wZ ks ns ws rs) {r:Rl} (hr:r∈rs):(opens (r.take++r.keep)).length<=3:=by
 have d:=h.rd r hr
 have Xg:∀x∈opens (r.take++r.keep),x∈ns.take 3:=fun x B=>by
  obtain⟨⟨g,q,Xp⟩,gr⟩:=wQ (iz _) B
  have M0:x∈ns.take 3++ws:=by
   rcases aaq.mp q with z|z
   ·exact(d.take g z).2 x Xp
   ·exact(d.keep g z).2 x Xp
  rcases aaq.mp M0 with z|z
  ·exact z
  ·rw [h.wg x z] at gr
   cases gr
 have z:=Bb _ _ (mQ (r.take++r.keep)) Xg
 rw [aat] at z
 omega
def Bv (f:Fc):Prop:=aI f.k=true/\f.as.length<=4/\∀a∈f.as,uY a
theorem Bv.fs {f:Fc} (h:Bv f):FS f:=⟨jV h.1,fun a ha=>jV (h.2.2 a ha).1,by have:=h.2.1;omega⟩
theorem Bv.wr {f:Fc} {st:uw} (h:Bv f) (hs:∀v∈st.map (·.2),uY v):Bv (Bk.wr st f):=by
 refine⟨h.1,by show(f.as.map _).length<=4;rw [Lm9];exact h.2.1,fun a ha=>?_⟩
 obtain⟨x,q,rfl⟩:=aaw.mp ha
 rcases Hy st x with z|z
 ·rw [z];exact h.2.2 x q
 ·exact hs _ z
theorem Bv.of {ks:List Kd} {as:List Cs} {f:Fc} (B:KG ks) {Fo:List Kd} (hs:∀k∈Fo,k∈ks) (F:∀a∈as,uY a) (h:Bm Fo as f):Bv f:=by
 obtain⟨⟨k,hk,q,G⟩,h2⟩:=h
 have z:=B.ok k (hs k hk)
 exact⟨by rw [q];exact fq z.1,by omega,fun a ha=>F a (h2 a ha)⟩
end Bk
namespace iI
open PySem L2 cE Bk
set_option maxHeartbeats 4000000
noncomputable def top (i:Nat):Stmt:=PySem.Challenge.pw_poolrules_k14_a_step_fits.main.body.getD i (.Pass ⟨0,0,0,0⟩)
noncomputable abbrev g7:Stmt:=top 20
noncomputable abbrev tD:Stmt:=top 21
noncomputable abbrev pQ:Stmt:=top 22
noncomputable abbrev iJ:Stmt:=top 23
noncomputable abbrev iK:Stmt:=top 24
noncomputable abbrev xc:Stmt:=top 25
noncomputable abbrev pS:Stmt:=top 26
noncomputable abbrev pT:Stmt:=top 27
noncomputable abbrev tE:Stmt:=top 28
noncomputable abbrev iM:Stmt:=top 29
noncomputable abbrev jr:Stmt:=top 31
noncomputable abbrev js:Stmt:=top 32
noncomputable abbrev tF:Stmt:=top 33
noncomputable abbrev Hz:Stmt:=top 35
noncomputable abbrev kO:Stmt:=top 36
noncomputable abbrev kU:Stmt:=top 37
noncomputable abbrev jt:Stmt:=top 38
noncomputable abbrev tG:Stmt:=top 39
noncomputable abbrev iN:Stmt:=top 40
noncomputable abbrev mR:Stmt:=inClass (top 42) 0
noncomputable abbrev kW:Stmt:=inClass (top 43) 0
noncomputable abbrev iO:Stmt:=inClass (top 44) 0
noncomputable abbrev kY:Stmt:=top 51
noncomputable abbrev tH:Stmt:=top 52
noncomputable abbrev ju:Stmt:=top 53
noncomputable abbrev mS:Stmt:=top 54
noncomputable abbrev mT:Stmt:=top 55
noncomputable abbrev mU:Stmt:=top 56
noncomputable abbrev kZ:Stmt:=top 57
noncomputable abbrev mV:Stmt:=top 58
noncomputable abbrev lh:Stmt:=top 59
noncomputable abbrev mW:Stmt:=top 60
noncomputable abbrev fV:Stmt:=top 61
noncomputable abbrev xf:Stmt:=top 62
noncomputable abbrev mX:Stmt:=inClass (top 64) 0
noncomputable abbrev lj:Stmt:=inClass (top 64) 1
noncomputable abbrev mY:Stmt:=inClass (top 65) 0
noncomputable abbrev lu:Stmt:=top 66
noncomputable abbrev m3:Stmt:=top 67
noncomputable abbrev m4:Stmt:=top 68
noncomputable abbrev ly:Stmt:=top 69
noncomputable abbrev lA:Stmt:=top 70
noncomputable abbrev jv:Stmt:=top 71
noncomputable abbrev lB:Stmt:=top 72
noncomputable abbrev m5:Stmt:=top 74
noncomputable abbrev jw:Stmt:=top 75
noncomputable abbrev m6:Stmt:=top 76
noncomputable abbrev m7:Stmt:=top 77
noncomputable abbrev lC:Stmt:=top 79
noncomputable abbrev lD:Stmt:=top 80
noncomputable abbrev lE:Stmt:=top 81
noncomputable abbrev lF:Stmt:=top 82
noncomputable abbrev lG:Stmt:=top 83
noncomputable abbrev m8:Stmt:=top 84
noncomputable abbrev m9:Stmt:=top 85
noncomputable abbrev nh:Stmt:=top 86
noncomputable abbrev ni:Stmt:=top 87
noncomputable abbrev tI:Stmt:=top 88
noncomputable abbrev tJ:Stmt:=top 89
noncomputable abbrev lH:Stmt:=top 90
noncomputable abbrev nj:Stmt:=top 91
noncomputable abbrev nu:Stmt:=top 92
noncomputable abbrev iP:Stmt:=top 93
noncomputable abbrev jx:Stmt:=top 94
noncomputable abbrev qP:Stmt:=top 95
section
variable {P:abn} {w:abU} {K:aaa} {mg:Str->Option aae} {base:Heap} {f:aay} {fd:abZ} {c:Cl}
theorem uZ:aB ["sign"] ["sign"] (au iJ):=⟨rfl,rfl,rfl,by decide +kernel,rfl,by decide +kernel,by decide +kernel⟩
theorem u6 {B G J:aae} (F:dz K "is_name_sign" "is_name_sign" iJ f fd) (Cv:mg "SMALL"=some B) (Cw:RelV (.str fM) B) (Cy:mg "GREAT"=some G) (Cz:RelV (.str kj) G) (K2:mg "FIGURES"=some J) (K3:RelV (.str Nh) J) :
  aX P w K mg base dS 1 f fd ["sign"] G5:=by
 refine F.ok uZ (fun vs H Q E h=>?_) (fun cP A outer s H vs Q E hr h=>?_)
 ·obtain⟨c,rfl,_⟩:=h
  rfl
 obtain⟨c,rfl,q⟩:=h
 refine⟨_,(ak (aG (MB (cS iw (pv 0) (cb rfl Cv Cw) (by with_unfolding_all rfl)) (MB (cS iw (pv 0) (cb rfl Cy Cz) (by with_unfolding_all rfl)) (pB (cS iw (pv 0) (cb rfl K2 K3) (by with_unfolding_all rfl))))))),?_⟩
 refine⟨_,rfl,_,_,rfl,rfl,_,rfl,?_⟩
 rw [ad2]
 refine dQ (fun z=>?_) (fun z=>?_)
 ·have e:bu c=true:=by unfold bu;rw [z];rfl
  rw [e] at q
  exact q
 refine⟨_,rfl,_,_,rfl,rfl,_,rfl,?_⟩
 rw [ad2]
 have O:decide (c∈fM.cps.toList)=false:=by simpa using z
 refine dQ (fun y=>?_) (fun y=>?_)
 ·have e:bu c=true:=by unfold bu;rw [y];simp
  rw [e] at q
  exact q
 have L:decide (c∈kj.cps.toList)=false:=by simpa using y
 refine⟨_,rfl,_,_,rfl,rfl,?_⟩
 rw [ad2]
 have e:bu c=decide (c∈Nh.cps.toList):=by unfold bu;rw [O,L];rfl
 rw [e] at q
 exact q
theorem HZ:aB ["text"] ["text"] (au tD):=⟨rfl,rfl,rfl,by decide +kernel,rfl,by decide +kernel,by decide +kernel⟩
theorem Ia {Y:aae} (F:dz K "is_name" "is_name" tD f fd) (dm:dn P w K mg base "is_name_sign" 1 ["sign"] G5)
  (bf:mg "len"=none) (Ow:mg "all"=none) (K4:mg "LONGEST"=some Y) (K5:RelV (.int 12) Y):aX P w K mg base dS 2 f fd ["text"] (EH ie):=by
 refine F.ok HZ (fun vs H Q E h=>?_) (fun cP A outer s H vs Q E hr h=>?_)
 ·obtain⟨c,rfl,_⟩:=h
  rfl
 obtain⟨x,rfl,Z,q⟩:=h
 refine⟨_,(ak (aG (pC (MJ RT RT ae (aK j8 rfl bf abq (aa (pv 0) af)) (cb rfl K4 K5)) (pB (aK Ew rfl Ow ahC (aa (bW [] rfl (by kernel_rfl) (Tx (pv 0)) (fun _ _ _ _ _=>bL) (fun _ _ _ _ _=>(ao dm hr.q rfl (aa (pv 0) af)))) af)))))),?_⟩
 refine⟨_,rfl,x,rfl,sz (by omega),_,_,rfl,rfl,_,rfl,?_⟩
 refine dQ (fun G=>?_) (fun G=>?_)
 ·refine⟨_,_,rfl,rfl,_,rfl,?_⟩
  refine dQ (fun J=>?_) (fun J=>?_)
  ·refine⟨_,rfl,x,rfl,fun D O=>?_⟩
   refine MZ (x:=x) (jg (show x.cps.size<=100000 by have z:x.cps.size<=20000:=Z;omega)) (fun i ys H'=>ah H H'/\H' D=some (.lst ys)/\ys=((x.cps.toList.take i).map bu).map V.bl) ⟨ai O _,aj,rfl⟩ (fun i ys H' p=>⟨p.2.1,?_⟩) (fun i ys H' hi p=>?_) (fun ys H' p=>?_)
   ·rw [p.2.2]
    simp
    omega
   ·refine⟨_,rfl,_,rfl,p.2.1,?_⟩
    refine⟨fun b o e=>?_,aj,?_⟩
    ·rw [aD (aO e O)]
     exact p.1 b o e
    ·rw [p.2.2]
     have L:i<x.cps.toList.length:=by simpa using hi
     rw [aao L]
     simp [abV,hi]
   ·refine⟨D,(x.cps.toList.map bu),rfl,rfl,.inl (.inl ?_),?_⟩
    ·rw [p.2.1,p.2.2,ada (by simp)]
    ·have e:ie x=(x.cps.toList.map bu).all id:=by
      unfold ie
      rw [G,J]
      simp [ahw,Function.comp_def]
     have B:=q H' p.1
     rw [e] at B
     exact B
  ·have e:ie x=false:=by
    unfold ie
    have Xq:decide ((x.length:Int)<=12)=false:=by simpa using J
    rw [Xq]
    simp
   have B:=q H (ah.refl H)
   rw [e] at B
   exact B
 ·have e:ie x=false:=by
   unfold ie
   have c1':decide ((1:Int)<=x.length)=false:=by simpa using G
   rw [c1']
   simp
  have B:=q H (ah.refl H)
  rw [e] at B
  exact⟨_,rfl,bw B⟩
theorem tK:aB ["text"] ["text"] (au g7):=⟨rfl,rfl,rfl,by decide +kernel,rfl,by decide +kernel,by decide +kernel⟩
theorem tL {B:aae} (F:dz K "is_small_word" "is_small_word" g7 f fd) (dN:dn P w K mg base "is_name" 2 ["text"] (EH ie))
  (Cv:mg "SMALL"=some B) (Cw:RelV (.str fM) B):aX P w K mg base dS 3 f fd ["text"] (EH km):=by
 refine F.ok tK (fun vs H Q E h=>?_) (fun cP A outer s H vs Q E hr h=>?_)
 ·obtain⟨c,rfl,_⟩:=h
  rfl
 obtain⟨x,rfl,G,q⟩:=h
 refine⟨_,(ak (aG (pC (ao dN hr.q rfl (aa (pv 0) af)) (pB (cS iw (aq j7 (pv 0) ae (fun _ _=>rfl)) (cb rfl Cv Cw) (by with_unfolding_all rfl)))))),?_⟩
 refine⟨_,rfl,x,rfl,G,fun H' sm=>⟨_,rfl,?_⟩⟩
 have z:=q H' sm
 unfold km at z
 refine dQ (fun c=>?_) (fun c=>?_)
 ·refine⟨_,rfl,x,0,_,rfl,rfl,sz (by omega),qD (Nk c),_,_,rfl,rfl,?_⟩
  rw [ad2]
  rw [c,aeB] at z
  exact z
 ·have e:ie x=false:=by simpa using c
  rw [e,aeH] at z
  exact z
theorem nv:aB ["text","start","end"] ["text","start"] (au pS):=⟨rfl,rfl,rfl,by decide +kernel,rfl,by decide +kernel,by decide +kernel⟩
theorem FC (F:dz K "name_end" "name_end" pS f fd) (dm:dn P w K mg base "is_name_sign" 1 ["sign"] G5) (bf:mg "len"=none):aX P w K mg base dS 2 f fd ["text","start"] R5:=by
 refine F.ok nv (fun vs H Q E h=>?_) (fun cP A outer s H vs Q E hr h=>?_)
 ·obtain⟨x,p,rfl,_⟩:=h
  rfl
 obtain⟨x,p,rfl,O,J,q⟩:=h
 have hl:=Ca x
 refine⟨_,(ag (az (i:=2) nv.nd rfl (abi rfl) (pv 1))
 (ag (qe abB (PW.pt (mr (aE qg (pv 2) (aK j8 rfl bf abq (aa (pv 0) af)) (aQ _)) (je (bU (ao dm hr.q rfl (aa (aq j7 (pv 0) (pv 2) (fun _ _=>rfl)) af))))))
 (ak (BO (i:=2) nv.nd rfl (abi rfl) ae BP)))
 (ak (aG (pv 2))))),?_⟩
 try dsimp only [jZ,GP]
 refine⟨_,rfl,fun m σ H'=>H'=H/\∃j:Nat,m=x.length - (p+j)/\σ=[some (.str x),some (.int p),some (.int ((p+j:Nat):Int))]/\p+j<=x.length/\bT (x.cps.toList.drop p)=j+bT (x.cps.toList.drop (p+j)),⟨_,rfl,0,rfl,rfl,J,by simp⟩,?_⟩
 rintro m σ H' ⟨rfl,j,rfl,rfl,L,e⟩
 refine⟨_,rfl,_,rfl,x,rfl,sz (by omega),_,_,rfl,rfl,_,rfl,?_⟩
 refine dQ (fun c=>?_) (fun c=>?_)
 ·have G:p+j<x.length:=by
   have z:=of_decide_eq_true c
   omega
  have hd:x.cps.toList.drop (p+j)=x.cps.toList.getD (p+j) 0::x.cps.toList.drop (p+j+1):=EF (by omega)
  rw [hd,Cb] at e
  refine⟨_,rfl,_,rfl,x,_,_,rfl,rfl,sz (by omega),Nl (by omega) (by omega),_,rfl,_,rfl,?_⟩
  rw [show((p+j:Nat):Int).toNat=p+j by omega]
  refine dQ (fun B=>?_) (fun B=>?_)
  ·rw [if_pos B] at e
   refine⟨fun σ' U=>U=H'/\σ'=[some (.str x),some (.int p),some (.int ((p+(j+1):Nat):Int))],fun σ' U z=>⟨x.length - (p+(j+1)),by omega,z.1,j+1,rfl,z.2,by omega,by rw [<- Nat.add_assoc];omega⟩,?_⟩
   refine⟨_,rfl,_,_,rfl,rfl,rfl,?_⟩
   show [some (V.str x),some (V.int p),some (V.int (((p+j:Nat):Int)+1))]=_
   rw [show((p+(j+1):Nat):Int)=((p+j:Nat):Int)+1 by omega]
  ·rw [if_neg B] at e
   refine⟨_,rfl,?_⟩
   rw [e] at q
   exact q
 ·have G:¬ (p+j<x.length):=fun z=>c (decide_eq_true (by omega))
  have hd:x.cps.toList.drop (p+j)=[]:=ahq (by omega)
  rw [hd] at e
  refine bw ⟨_,rfl,?_⟩
  rw [e] at q
  exact q
theorem gq:aB ["text","marks","found","place","end","sign"] ["text","marks"] (au xc):=⟨rfl,rfl,rfl,by decide +kernel,rfl,by decide +kernel,by decide +kernel⟩
theorem K6 (F:dz K "pieces" "pieces" xc f fd) (pU:dn P w K mg base "name_end" 2 ["text","start"] R5) (bf:mg "len"=none):aX P w K mg base dS 3 f fd ["text","marks"] EI:=by
 refine F.ok gq (fun vs H Q E h=>?_) (fun cP A outer s H vs Q E hr h=>?_)
 ·obtain⟨x,m,rfl,_⟩:=h
  rfl
 obtain⟨x,mk,rfl,hx,ace,hok,q⟩:=h
 have hl:=Ca x
 refine⟨_,(ag (az (i:=2) gq.nd rfl (abi rfl) (bb af))
 (ag (az (i:=3) gq.nd rfl (abi rfl) ae)
 (ag (qe abB (aE qg (pv 3) (aK j8 rfl bf abq (aa (pv 0) af)) (aQ _))
 (ag (az (i:=4) gq.nd rfl (abi rfl) (ao pU hr.q rfl (aa (pv 0) (aa (pv 3) af))))
 (ag (aU (aE I9 (pv 4) (pv 3) (aQ _))
 (ag (bp (cU aaN abm abp bz (pv 2) (aa (bI Tz (pv 0) (bB (pv 3)) (bB (pv 4))) af)))
 (ag (az (i:=3) gq.nd rfl (abi rfl) (pv 4))
 (ak El)))
 aF)
 (ag (az (i:=5) gq.nd rfl (abi rfl) (aq j7 (pv 0) (pv 3) (fun _ _=>rfl)))
 (ag (aU (aE iw (pv 5) (pv 1) (by with_unfolding_all rfl))
 (ak (bp (cU aaN abm abp bz (pv 2) (aa (pv 5) af))))
 (ak (aU (aE fE (pv 5) aP (aQ _))
 bq
 aF)))
 (ak (BO (i:=3) gq.nd rfl (abi rfl) ae BP)))))))
 (ak (aG (pv 2)))))),?_⟩
 try dsimp only [jZ,GP]
 refine⟨(by show 0<=aaj;decide),fun l Ox=>?_⟩
 refine⟨Jq x mk l H,⟨_,0,[],none,none,rfl,rfl,ab4 _,ai Ox _,aj,rfl⟩,?_⟩
 rintro m σ H' ⟨p,done,o3,o4,rfl,rfl,hp,sm,B,e⟩
 have hlen:done.length<=20000:=by
  have z:=congrArg adO e
  rw [aab] at z
  have z2:=EK x.cps.toList
  omega
 refine⟨_,rfl,_,rfl,x,rfl,sz (by omega),_,_,rfl,rfl,_,rfl,?_⟩
 refine dQ (fun c=>?_) (fun c=>?_)
 ·have Z:p<x.length:=by
   have z:=of_decide_eq_true c
   omega
  refine⟨fun σ' U=>∃Y,Y<x.length - p/\Jq x mk l H Y σ' U,fun σ' U z=>z,?_⟩
  refine⟨_,rfl,_,rfl,x,p,rfl,hx,hp,?_⟩
  refine⟨_,rfl,_,rfl,_,_,rfl,rfl,_,rfl,?_⟩
  have hd:=EF (l:=x.cps.toList) (i:=p) (by omega)
  have O:=G6 (x.cps.toList.drop p)
  rw [abO] at O
  refine dQ (fun G=>?_) (fun G=>?_)
  ·have Xq:0<bT (x.cps.toList.drop p):=by
    have z:=of_decide_eq_true G
    omega
   refine⟨_,rfl,.inl ⟨rfl,_,aC.of B⟩,_,rfl,_,rfl,_,rfl,_,rfl,_,rfl,x,rfl,sz (by omega),?_⟩
   rw [Qk (by omega)]
   refine⟨l,_,_,rfl,rfl,B,(by rw [Lm9];exact jg (by omega)),?_⟩
   refine⟨_,rfl,x.length - (p+bT (x.cps.toList.drop p)),by omega,p+bT (x.cps.toList.drop p),done++[(x.cps.toList.drop p).take (bT (x.cps.toList.drop p))],_,_,rfl,rfl,by omega,ah.ba sm Ox _,?_,?_⟩
   ·rw [aj,aau]
    rfl
   ·rw [wd (by omega),agk] at e
    rw [abH]
    exact e
  ·have Xq:bT (x.cps.toList.drop p)=0:=by
    have z:¬ ((p:Int)<((p+bT (x.cps.toList.drop p):Nat):Int)):=fun z=>G (decide_eq_true z)
    omega
   have Ed:bu (x.cps.toList.getD p 0)=false:=by
    rw [hd] at Xq
    exact B8 Xq
   have ZG:yY mk (x.cps.toList.getD p 0)=true:=by
    rw [ab3] at hok
    exact hok _ (acm (getD_get (by omega)))
   refine⟨_,rfl,_,rfl,x,p,_,rfl,rfl,sz (by omega),Nl (by omega) (by omega),?_⟩
   rw [show((p:Nat):Int).toNat=p by omega]
   refine⟨_,rfl,_,rfl,_,_,rfl,rfl,_,rfl,?_⟩
   rw [ad2]
   rw [hd] at e
   refine dQ (fun J=>?_) (fun J=>?_)
   ·have L:x.cps.toList.getD p 0≠32:=fun z=>ace (by have:=of_decide_eq_true J;rw [z] at this;exact this)
    rw [wj Ed L] at e
    refine⟨_,rfl,.inl ⟨rfl,_,aC.of B⟩,_,rfl,l,_,_,rfl,rfl,B,(by rw [Lm9];exact jg (by omega)),?_⟩
    refine⟨_,rfl,_,_,rfl,rfl,x.length - (p+1),by omega,p+1,done++[[x.cps.toList.getD p 0]],_,_,rfl,rfl,by omega,ah.ba sm Ox _,?_,?_⟩
    ·rw [aj,aau]
     rfl
    ·rw [abH]
     exact e
   ·have L:x.cps.toList.getD p 0=32:=by
     unfold yY at ZG
     rw [Ed,ahb] at ZG
     have c3':decide (x.cps.toList.getD p 0∈mk.cps.toList)=false:=by simpa using J
     rw [c3',ahb] at ZG
     exact eq_of_beq ZG
    rw [L] at e ⊢
    rw [ff] at e
    refine⟨_,rfl,rfl,_,rfl,?_⟩
    have z:decide (V.str ⟨#[32]⟩=V.str (aad " "))=true:=by decide +kernel
    rw [z]
    refine bw ?_
    exact⟨_,rfl,_,_,rfl,rfl,x.length - (p+1),by omega,p+1,done,_,_,rfl,rfl,by omega,sm,B,e⟩
 ·have Z:p=x.length:=by
   have z:¬ ((p:Int)<(x.length:Int)):=fun z=>c (decide_eq_true z)
   omega
  have hd:x.cps.toList.drop p=[]:=ahq (by omega)
  rw [hd] at e
  have e':done=toks x.cps.toList:=by
   rw [<- e]
   show done=done++[]
   rw [abI]
  rw [e'] at B
  exact⟨_,rfl,q l H' sm Ox B⟩
theorem FD:aB ["found","place"] ["found","place"] (au pT):=⟨rfl,rfl,rfl,by decide +kernel,rfl,by decide +kernel,by decide +kernel⟩
theorem FF (F:dz K "piece_at" "piece_at" pT f fd) (bf:mg "len"=none):aX P w K mg base dS 1 f fd ["found","place"] vA:=by
 refine F.ok FD (fun vs H Q E h=>?_) (fun cP A outer s H vs Q E hr h=>?_)
 ·obtain⟨l,ps,p,rfl,_⟩:=h
  rfl
 obtain⟨l,ps,p,rfl,G,hz,q⟩:=h
 refine⟨_,(ag (aU (aE qg (pv 1) (aK aH rfl bf abq (aa (pv 0) af)) (aQ _))
 (ak (aG (aq aw (pv 0) (pv 1) (fun _ _=>rfl))))
 aF)
 (ak (aG aP))),?_⟩
 refine⟨_,rfl,_,rfl,l,_,rfl,.inl (aC.of G),_,_,rfl,rfl,_,rfl,?_⟩
 refine dQ (fun c=>?_) (fun c=>?_)
 ·have B:p<ps.length:=by
   have z:=of_decide_eq_true c
   rw [Lm9] at z
   omega
  refine⟨_,rfl,_,rfl,l,_,_,tx (ps.getD p []),rfl,rfl,aC.of G,?_,q⟩
  refine bE ?_
  rw [abc,Gd9,Ge9 B]
  rfl
 ·have B:ps.length<=p:=by
   have z:¬ ((p:Int)<(((ps.map tx).length:Nat):Int)):=fun z=>c (decide_eq_true z)
   rw [Lm9] at z
   omega
  have e:ps.getD p []=[]:=by
   rw [Gd9,List.getElem?_eq_none B]
   rfl
  rw [e] at q
  exact q
theorem dI:aB ["found","place","names","name","mark"] ["found","place"] (au iM):=⟨rfl,rfl,rfl,by decide +kernel,rfl,by decide +kernel,by decide +kernel⟩
theorem u7 (F:dz K "arguments_at" "arguments_at" iM f fd) (bQ:dn P w K mg base "piece_at" 1 ["found","place"] vA) (dN:dn P w K mg base "is_name" 2 ["text"] (EH ie)) (eo:mg "tuple"=none) :
  aX P w K mg base dS 3 f fd ["found","place"] Nm:=by
 refine F.ok dI (fun vs H Q E h=>?_) (fun cP A outer s H vs Q E hr h=>?_)
 ·obtain⟨l,ps,p,n,as,rfl,_⟩:=h
  rfl
 obtain⟨l,ps,p,n,as,rfl,hL,hz,alt,q⟩:=h
 refine⟨_,(ag (az (i:=2) dI.nd rfl (abi rfl) (bb af))
 (ag (aU (aE du (ao bQ hr.q rfl (aa (pv 0) (aa (pv 1) af))) aP (aQ _))
 (ak (aG (a8 (aa (a8 af) (aa (aJ gY (pv 1) ae) af)))))
 aF)
 (ak (qe abB (bU fB)
 (ag (az (i:=3) dI.nd rfl (abi rfl) (ao bQ hr.q rfl (aa (pv 0) (aa (pv 1) af))))
 (ag (aU (fK (bU (ao dN hr.q rfl (aa (pv 3) af))))
 bq
 aF)
 (ag (bp (cU aaN abm abp bz (pv 2) (aa (pv 3) af)))
 (ag (az (i:=4) dI.nd rfl (abi rfl) (ao bQ hr.q rfl (aa (pv 0) (aa (aJ gY (pv 1) ae) af))))
 (ag (BO (i:=1) dI.nd rfl (abi rfl) ae BP)
 (ag (aU (aE du (pv 4) aP (aQ _))
 (ak (aG (a8 (aa (cy gz rfl eo PyProof.Rows.Boot.«tuple» (aa (pv 2) af)) (aa (pv 1) af)))))
 aF)
 (ak (aU (aE fE (pv 4) aP (aQ _))
 bq
 aF)))))))))))),?_⟩
 try dsimp only [jZ,GP]
 refine⟨(by show 0<=aaj;decide),fun ln ZH=>?_⟩
 have O:l≠ln:=fun z=>by rw [z,ZH] at hL;cases hL
 have me:upd H ln (.lst []) l=some (.lst (ps.map tx)):=by rw [aD O];exact hL
 refine⟨_,rfl,_,rfl,l,ps,p,rfl,me,hz,rfl,_,rfl,?_⟩
 rcases alt with⟨rfl,rfl,a1⟩|⟨acg,ha⟩
 ·rw [a1]
  have z:decide (tx [41]=V.str (aad ")"))=true:=by decide +kernel
  rw [z]
  refine dP ⟨(by show 0<=aaj;decide),fun Y qJ=>?_⟩
  refine⟨_,rfl,_,_,rfl,rfl,(by show 2<=aaj;decide),fun t J=>?_⟩
  have G:Y≠t:=fun z=>by rw [<- z,aj] at J;cases J
  refine q t Y _ (ah.trans (ai ZH _) (ah.trans (ai qJ _) (ai J _))) aj ?_
  rw [aD G]
  exact aj
 ·have z:decide (tx (ps.getD p [])=V.str (aad ")"))=false:=Np (b:=[41]) acg
  rw [z]
  refine bw ?_
  refine⟨R6 l ln ps as (p+n) H,⟨_,p,n,[],as,none,none,rfl,rfl,ai ZH _,me,aj,ha,rfl,rfl,by rw [abO];simp;omega⟩,?_⟩
  rintro m σ H' ⟨B,n',done,as',o3,o4,rfl,rfl,sm,L,a2,a3,ed,ep,a4⟩
  obtain⟨nm,mk,r,Z,qQ,aci⟩:=KC a3
  have g0:ps.getD B []=nm:=by
   have z:=iy (l:=ps) (p:=B) (i:=0)
   rw [Z] at z
   exact z.symm
  have g1:ps.getD (B+1) []=mk:=by
   have z:=iy (l:=ps) (p:=B) (i:=1)
   rw [Z] at z
   exact z.symm
  have QW:ps.drop (B+2)=r:=by
   rw [<- agk,Z]
   rfl
  have sg:(ps.drop B).length=r.length+2:=by rw [Z];rfl
  refine⟨_,rfl,?_⟩
  refine dP ⟨fun σ' U=>∃m',m'<(ps.drop B).length/\R6 l ln ps as (p+n) H m' σ' U,fun σ' U z=>z,?_⟩
  refine⟨_,rfl,_,rfl,l,ps,B,rfl,L,hz,?_⟩
  rw [g0]
  have a5:nm.length<=12:=by
   unfold aI at qQ
   simp only [abg,decide_eq_true_eq] at qQ
   exact qQ.2.1
  refine⟨_,rfl,S nm,rfl,by rw [aY];omega,fun U tu=>⟨_,rfl,?_⟩⟩
  rw [qC,qQ]
  refine bw ?_
  have Ob:=tu _ _ a2
  have mf:=tu _ _ L
  refine⟨_,rfl,.inl ⟨rfl,_,aC.of Ob⟩,_,rfl,ln,_,_,rfl,rfl,Ob,(by rw [Lm9];exact jg (by omega)),?_⟩
  have oM:upd U ln (.lst (done.map tx++[tx nm])) l=some (.lst (ps.map tx)):=by rw [aD O];exact mf
  refine⟨_,rfl,_,rfl,_,_,rfl,rfl,l,ps,B+1,rfl,oM,hz,?_⟩
  rw [g1]
  refine⟨_,rfl,_,_,rfl,rfl,?_⟩
  have JP:ah H (upd U ln (.lst (done.map tx++[tx nm]))):=ah.ba (ah.trans sm tu) ZH _
  refine⟨_,rfl,rfl,_,rfl,?_⟩
  rcases aci with⟨rfl,rfl,rfl⟩|⟨rfl,as2,n2,ZI,rfl,rfl⟩
  ·have z:decide (tx [41]=V.str (aad ")"))=true:=by decide +kernel
   rw [z]
   refine dP ⟨_,rfl,ln,_,rfl,.inl ⟨aC.of aj,fun Y qJ=>?_⟩⟩
   refine⟨_,rfl,(by show 2<=aaj;decide),fun t J=>?_⟩
   have G:Y≠t:=fun z=>by rw [<- z,aj] at J;cases J
   refine q t Y _ (ah.trans JP (ah.trans (ai qJ _) (ai J _))) ?_ ?_
   ·rw [aj,<- ep]
    rfl
   ·rw [aD G,aj,<- ed,aau]
    rfl
  ·have z:decide (tx [44]=V.str (aad ")"))=false:=by decide +kernel
   rw [z]
   refine bw ?_
   have z2:decide (tx [44]=V.str (aad ","))=true:=by decide +kernel
   refine⟨_,rfl,rfl,_,rfl,?_⟩
   rw [z2]
   refine bw ?_
   refine⟨(ps.drop (B+2)).length,by rw [QW,sg];omega,B+2,n2,done++[nm],as2,_,_,rfl,rfl,JP,oM,?_,by rw [QW];exact ZI,by rw [abH];exact ed,by omega,by rw [QW,aab];simp only [aal,abN];omega⟩
   rw [aj,aau]
   rfl
theorem pV:aB ["found","place","kind","reading"] ["found","place"] (au tE):=⟨rfl,rfl,rfl,by decide +kernel,rfl,by decide +kernel,by decide +kernel⟩
theorem Ib (F:dz K "fact_at" "fact_at" tE f fd) (bQ:dn P w K mg base "piece_at" 1 ["found","place"] vA) (bN:dn P w K mg base "is_small_word" 3 ["text"] (EH km)) (iQ:dn P w K mg base "arguments_at" 3 ["found","place"] Nm) :
  aX P w K mg base dS 4 f fd ["found","place"] EJ:=by
 refine F.ok pV (fun vs H Q E h=>?_) (fun cP A outer s H vs Q E hr h=>?_)
 ·obtain⟨l,ps,p,n,k,as,rfl,_⟩:=h
  rfl
 obtain⟨l,ps,p,n,k,as,rfl,hL,hz,L,q⟩:=h
 refine⟨_,(ag (az (i:=2) pV.nd rfl (abi rfl) (ao bQ hr.q rfl (aa (pv 0) (aa (pv 1) af))))
 (ag (aU (fK (bU (ao bN hr.q rfl (aa (pv 2) af))))
 bq
 aF)
 (ag (aU (aE fE (ao bQ hr.q rfl (aa (pv 0) (aa (aJ gY (pv 1) ae) af))) aP (aQ _))
 (ak (aG (a8 (aa (a8 (aa (pv 2) (aa (a8 af) af))) (aa (aJ gY (pv 1) ae) af)))))
 aF)
 (ag (az (i:=3) pV.nd rfl (abi rfl) (ao iQ hr.q rfl (aa (pv 0) (aa (aJ gY (pv 1) ae) af))))
 (ak (aG (a8 (aa (a8 (aa (pv 2) (aa (aq ax (pv 3) ae (fun _ _=>rfl)) af))) (aa (aq ax (pv 3) ae (fun _ _=>rfl)) af))))))))),?_⟩
 try dsimp only [jZ,GP]
 have hd:∃r,ps.drop p=k::r/\br k=true:=by
  generalize ps.drop p=l0 at L
  cases L with
  | bare hk h=>exact⟨_,rfl,hk⟩
  | empty hk=>exact⟨_,rfl,hk⟩
  | args hk h0 h=>exact⟨_,rfl,hk⟩
 obtain⟨r0,ed,hk⟩:=hd
 have g0:ps.getD p []=k:=by
  have z:=iy (l:=ps) (p:=p) (i:=0)
  rw [ed] at z
  exact z.symm
 have UE:k.length<=12:=by
  unfold br aI at hk
  simp only [abg,decide_eq_true_eq] at hk
  exact hk.1.2.1
 have a1:km (S k)=true:=by
  unfold km
  rw [qC,cz]
  exact hk
 refine⟨_,rfl,_,rfl,l,ps,p,rfl,hL,hz,?_⟩
 rw [g0]
 refine⟨_,rfl,S k,rfl,by rw [aY];omega,fun H1 s1=>⟨_,rfl,?_⟩⟩
 rw [a1]
 refine bw ?_
 have me:=s1 _ _ hL
 refine⟨_,rfl,_,rfl,_,_,rfl,rfl,l,ps,p+1,rfl,me,hz,rfl,_,rfl,?_⟩
 have g1:ps.getD (p+1) []=r0.getD 0 []:=by
  have z:=iy (l:=ps) (p:=p) (i:=1)
  rw [ed] at z
  exact z.symm
 rw [g1]
 have full:∀(as':List (List Nat)) (B:Nat),r0.getD 0 []=[40]->n=B+2->as=as'->((as'=[]/\B=1/\ps.getD (p+2) []=[41])\/(ps.getD (p+2) []≠[41]/\g9 (ps.drop (p+2))=some (as',B)))->True:=fun _ _ _ _ _ _=>trivial
 by_cases Xr:r0.getD 0 []=[40]
 ·rw [Xr]
  have z:decide (tx [40]=V.str (aad "("))=true:=by decide +kernel
  rw [z]
  refine bw ?_
  have key:∃B,n=B+2/\((as=[]/\B=1/\ps.getD (p+2) []=[41])\/(ps.getD (p+2) []≠[41]/\g9 (ps.drop (p+2))=some (as,B))):=by
   have g2:∀r1,ps.drop p=k::[40]::r1->ps.getD (p+2) []=r1.getD 0 []/\ps.drop (p+2)=r1:=fun r1 e=>by
    refine⟨?_,?_⟩
    ·have z:=iy (l:=ps) (p:=p) (i:=2)
     rw [e] at z
     exact z.symm
    ·rw [<- agk,e]
     rfl
   rw [ed] at L g2
   cases L with
   | bare G h=>exact absurd Xr h
   | @empty _ r G =>
    obtain⟨a1,a2⟩:=g2 _ rfl
    exact⟨1,rfl,.inl ⟨rfl,rfl,a1⟩⟩
   | @args _ r _ B G h0 h =>
    obtain⟨a1,a2⟩:=g2 _ rfl
    exact⟨B,rfl,.inr ⟨by rw [a1];exact h0,by rw [a2];exact h⟩⟩
  obtain⟨B,en,alt⟩:=key
  refine⟨_,rfl,_,rfl,_,_,rfl,rfl,l,ps,p+2,B,as,rfl,me,hz,alt,fun t Z U s2 ht qJ=>?_⟩
  refine⟨_,rfl,_,rfl,t,_,0,.ref Z,rfl,rfl,bH.of ht,rfl,(by show 2<=aaj;decide),fun Y zj=>?_⟩
  have UG:=ai zj (.tup [tx k,.ref Z])
  refine⟨_,rfl,t,_,1,_,rfl,rfl,bH.of (UG _ _ ht),rfl,(by show 2<=aaj;decide),fun O K7=>?_⟩
  have J:Y≠O:=fun z=>by rw [<- z,aj] at K7;cases K7
  refine q O Y Z _ (ah.trans s1 (ah.trans s2 (ah.trans UG (ai K7 _)))) ?_ ?_ ((ai K7 _) _ _ (UG _ _ qJ))
  ·rw [aj,en,show p+2+B=p+(B+2) by omega]
  ·rw [aD J]
   exact aj
 ·have z:decide (tx (r0.getD 0 [])=V.str (aad "("))=false:=Np (b:=[40]) Xr
  rw [z]
  have key:as=[]/\n=1:=by
   rw [ed] at L
   cases L with
   | bare G h=>exact⟨rfl,rfl⟩
   | empty G=>exact absurd rfl Xr
   | args G h0 h=>exact absurd rfl Xr
  obtain⟨rfl,rfl⟩:=key
  refine dP ⟨_,rfl,(by show 0<=aaj;decide),fun Z qJ=>?_⟩
  refine⟨(by show 2<=aaj;decide),fun Y zj=>?_⟩
  refine⟨_,rfl,_,_,rfl,rfl,(by show 2<=aaj;decide),fun O K7=>?_⟩
  have J:Y≠O:=fun z=>by rw [<- z,aj] at K7;cases K7
  refine q O Y Z _ (ah.trans s1 (ah.trans (ai qJ _) (ah.trans (ai zj _) (ai K7 _)))) aj ?_ ((ai K7 _) _ _ ((ai zj _) _ _ aj))
  rw [aD J]
  exact aj
theorem cW:aB ["found","facts","place","reading"] ["found"] (au iK):=⟨rfl,rfl,rfl,by decide +kernel,rfl,by decide +kernel,by decide +kernel⟩
theorem u9 (F:dz K "row_of_facts" "row_of_facts" iK f fd) (tM:dn P w K mg base "fact_at" 4 ["found","place"] EJ) (bf:mg "len"=none):aX P w K mg base dS 5 f fd ["found"] (R7 K):=by
 refine F.ok cW (fun vs H Q E h=>?_) (fun cP A outer s H vs Q E hr h=>?_)
 ·obtain⟨l,ps,fs,rfl,_⟩:=h
  rfl
 obtain⟨l,ps,fs,rfl,hL,hz,hR,q⟩:=h
 refine⟨_,(ag (az (i:=1) cW.nd rfl (abi rfl) (bb af))
 (ag (az (i:=2) cW.nd rfl (abi rfl) ae)
 (ak (qe abB (bU fB)
 (ag (az (i:=3) cW.nd rfl (abi rfl) (ao tM hr.q rfl (aa (pv 0) (aa (pv 2) af))))
 (ag (bp (cU aaN abm abp bz (pv 1) (aa (aq ax (pv 3) ae (fun _ _=>rfl)) af)))
 (ag (az (i:=2) cW.nd rfl (abi rfl) (aq ax (pv 3) ae (fun _ _=>rfl)))
 (ag (aU (aE du (pv 2) (aK aH rfl bf abq (aa (pv 0) af)) (aQ _))
 (ak (aG (pv 1)))
 aF)
 (ag (aU (aE fE (aq aw (pv 0) (pv 2) (fun _ _=>rfl)) aP (aQ _))
 bq
 aF)
 (ak (BO (i:=2) cW.nd rfl (abi rfl) ae BP))))))))))),?_⟩
 try dsimp only [jZ,GP]
 refine⟨(by show 0<=aaj;decide),fun lf QX=>?_⟩
 have J:l≠lf:=aO hL QX
 refine⟨WJ K l lf ps fs H,⟨_,0,[],fs,[],none,rfl,rfl,ai QX _,by rw [aD J];exact hL,aj,.nil,by rw [agV];exact hR,rfl,by rw [agV];simpa using hz⟩,?_⟩
 rintro m σ H' ⟨p,done,a9,us,o3,rfl,rfl,sm,G,Y,pr,L,ed,a2⟩
 obtain⟨f1,n,j3,rfl,hF,alt⟩:=L.head
 refine⟨_,rfl,dP ⟨fun σ' U=>∃m',m'<(ps.drop p).length/\WJ K l lf ps fs H m' σ' U,fun σ' U z=>z,?_⟩⟩
 refine⟨_,rfl,_,rfl,l,ps,p,n,f1.k,f1.as,rfl,G,hz,hF,fun t B t2 U s2 Z zj qJ=>?_⟩
 have ZJ:=s2 _ _ Y
 have mf:=s2 _ _ G
 have hlen:us.length<=20000:=by
  have z:=pr.length
  omega
 refine⟨_,rfl,.inl ⟨rfl,_,aC.of ZJ⟩,_,rfl,t,_,0,_,rfl,rfl,bH.of Z,rfl,lf,_,_,rfl,rfl,ZJ,jg (by omega),?_⟩
 have a1:t≠lf:=ml Z ZJ (by intro z;cases z)
 have kp:Kp (upd H lf (.lst [])) U (upd U lf (.lst (us++[V.ref B]))):=Kp.upd aj ZJ (by intro xs z;cases z) (by intro o u z;cases z)
 have pr':Paired (Fact K (upd U lf (.lst (us++[V.ref B])))) (done++[f1]) (us++[V.ref B]):=by
  refine(L2.Paired.bA pr fun a b z=>Fact.keep kp (Fact.keep (H0:=H) (Kp.same s2) z)).snoc ?_
  exact Fact.keep kp ⟨B,t2,rfl,bH.of zj,bH.of qJ⟩
 have oM:upd U lf (.lst (us++[V.ref B])) l=some (.lst (ps.map tx)):=by rw [aD J];exact mf
 have JP:ah H (upd U lf (.lst (us++[V.ref B]))):=ah.ba (ah.trans sm s2) QX _
 refine⟨_,rfl,t,_,1,_,rfl,rfl,bH.of (by rw [aD a1];exact Z),rfl,?_⟩
 refine⟨_,rfl,_,rfl,l,_,rfl,.inl (aC.of oM),rfl,_,rfl,?_⟩
 rw [Lm9]
 have a3:(ps.drop p).length=ps.length - p:=abO ..
 rcases alt with⟨en,rfl⟩|⟨hn,Zx,O⟩
 ·have z:decide (V.int ((p+n:Nat):Int)=V.int (ps.length:Int))=true:=by
   refine decide_eq_true ?_
   have:1<=(ps.drop p).length:=L.pos
   rw [show p+n=ps.length by omega]
  rw [z]
  refine dP ⟨_,rfl,q _ _ JP ⟨lf,_,rfl,QX,aj,?_⟩⟩
  rw [<- ed]
  exact pr'
 ·have z:decide (V.int ((p+n:Nat):Int)=V.int (ps.length:Int))=false:=by
   refine decide_eq_false fun z=>?_
   have z':((p+n:Nat):Int)=(ps.length:Int):=by injection z
   omega
  rw [z]
  refine bw ?_
  have g:ps.getD (p+n) []=[44]:=by
   have z:=iy (l:=ps) (p:=p) (i:=n)
   rw [<- z]
   exact Zx
  refine⟨_,rfl,_,rfl,l,_,_,tx [44],rfl,rfl,aC.of oM,?_,rfl,_,rfl,?_⟩
  ·refine bE ?_
   rw [abc,Ge9 (by omega)]
   rw [Gd9,Ge9 (by omega)] at g
   exact congrArg (fun z=>some (tx z)) g
  ·have z2:decide (tx [44]=V.str (aad ","))=true:=by decide +kernel
   rw [z2]
   refine bw ⟨_,rfl,_,_,rfl,rfl,(ps.drop (p+n+1)).length,?_,p+n+1,done++[f1],j3,_,_,rfl,rfl,JP,oM,aj,pr',?_,by rw [abH];exact ed,?_⟩
   ·rw [abO,abO];omega
   ·rw [show p+n+1=p+(n+1) by omega,<- agk];exact O
   ·rw [aab,abO];simp only [aal,abN];omega
end
section
variable {P:abn} {w:abU} {K:aaa} {mg:Str->Option aae} {base:Heap} {f:aay} {fd:abZ} {c:Cl}
theorem xg:aB ["line","bare"] ["line"] (au tH):=⟨rfl,rfl,rfl,by decide +kernel,rfl,by decide +kernel,by decide +kernel⟩
theorem Ic (F:dz K "is_told" "is_told" tH f fd):aX P w K mg base dS 1 f fd ["line"] Nt:=by
 refine F.ok xg (fun vs H Q E h=>?_) (fun cP A outer s H vs Q E hr h=>?_)
 ·obtain⟨p,rfl,_⟩:=h
  rfl
 obtain⟨p,rfl,hx,q⟩:=h
 refine⟨_,(ag (az (i:=1) xg.nd rfl (abi rfl) (cU adb PySem.F.slot_str_strip PySem.F.type_str_strip M8 (pv 0) (aa aP af)))
 (ak (aG (pC (cS fE (pv 1) aP (aQ _)) (pB (cS fE (aq j7 (pv 1) ae (fun _ _=>rfl)) aP (aQ _))))))),?_⟩
 obtain⟨b,eb,hb,B⟩:=Nr p
 refine⟨_,rfl,rfl,_,_,rfl,rfl,(by rw [aY];exact sz (by omega)),?_⟩
 rw [eb]
 unfold told at q
 refine⟨_,rfl,rfl,_,rfl,?_⟩
 have J:(aad "")=S []:=by decide +kernel
 rw [J]
 cases hd:p.dropWhile (· == 32) with
 | nil =>
  rw [hd] at B q
  have G:b=[]:=by
   cases b with
   | nil=>rfl
   | cons x r=>cases B
  subst G
  rw [decide_eq_true rfl]
  exact bw q
 | cons x r =>
  rw [hd] at B q
  obtain⟨z,rfl⟩:∃z,b=x::z:=by
   cases b with
   | nil=>cases B
   | cons y r'=>exact⟨r',by rw [abA B]⟩
  have L:decide (V.str (S (x::z))=V.str (S []))=false:=Np (a:=x::z) (b:=[]) (by simp)
  rw [L]
  refine dP ⟨_,rfl,S (x::z),0,x,rfl,rfl,(by rw [aY];exact sz (by omega)),?_,rfl,?_⟩
  ·rw [cz]
   exact bE (j:=0) rfl
  ·have O:decide (V.str ⟨#[x]⟩=V.str (aad "#"))=(x == 35):=by
    have Y:(aad "#")=S [35]:=by decide +kernel
    rw [Y]
    have Z:=mz [x] [35]
    show decide (tx [x]=tx [35])=_
    rw [Z]
    simp [ahy]
   rw [O]
   exact q
theorem zA:aB ["text"] ["text"] (au kY):=⟨rfl,rfl,rfl,by decide +kernel,rfl,by decide +kernel,by decide +kernel⟩
theorem zB (F:dz K "told_lines" "told_lines" kY f fd) (tN:dn P w K mg base "is_told" 1 ["line"] Nt):aX P w K mg base dS 2 f fd ["text"] Js:=by
 refine F.ok zA (fun vs H Q E h=>?_) (fun cP A outer s H vs Q E hr h=>?_)
 ·obtain⟨ls,rfl,_⟩:=h
  rfl
 obtain⟨ls,rfl,h0,O,hx,q⟩:=h
 refine⟨_,(ak (aG (bW [] rfl (by kernel_rfl) (aN (cU adb aeg PySem.F.type_str_split M7 (pv 0) (aa aP af))) (fun _ _ _ _ _=>(gA (bU (ao tN hr.q rfl (aa (pv 0) af))))) (fun _ _ _ _ _=>(pv 0))))),?_⟩
 have Y:=AY ls
 refine⟨_,rfl,rfl,_,_,rfl,rfl,rfl,(by rw [aY];exact sz (by omega)),?_⟩
 rw [EO h0 O]
 refine⟨(by rw [Lm9];exact sz (by omega)),fun l hl=>⟨l,rfl,⟨_,aC.of aj⟩,fun D J=>?_⟩⟩
 have B:H D=none:=(ai hl _).free J
 refine P9 (K:=K) (xs:=(ls.map S).map V.str) (by rw [Lm9,Lm9];exact jg (by omega)) J (aC.of aj) (fun v=>match v with|.str x=>told x.cps.toList|_=>false) id (fun x H' R hm sm G=>?_) (fun x H' R hm hk sm G=>?_) (fun H' sm L=>?_)
 ·obtain⟨z,hz,rfl⟩:=aaw.mp hm
  obtain⟨y,Z,rfl⟩:=aaw.mp hz
  refine⟨_,rfl,y,rfl,by have:=sj ls y Z;omega,_,rfl,?_⟩
  have z:R (told (S y).cps.toList) H':=G H' (ah.refl H')
  rw [cz] at z
  exact z
 ·exact⟨_,rfl,G H' (ah.refl H')⟩
 ·refine q _ _ (ah.trans (ai hl _) sm) ⟨D,rfl,B,?_⟩
  rw [L,aep,abY]
  congr 2
  rw [List.filter_map]
  have e:((fun v=>match v with|V.str x=>told x.cps.toList|_=>false) ∘ (V.str ∘ S))=told:=by
   funext y
   show told (S y).cps.toList=told y
   rw [cz]
  rw [e]
  rfl
theorem xh:aB ["line"] ["line"] (au ju):=⟨rfl,rfl,rfl,by decide +kernel,rfl,by decide +kernel,by decide +kernel⟩
theorem xi {B:aae} (F:dz K "line_pieces" "line_pieces" ju f fd) (xj:dn P w K mg base "pieces" 3 ["text","marks"] EI) (CA:mg "LINE_MARKS"=some B) (CB:RelV (.str gf) B):aX P w K mg base dS 4 f fd ["line"] Nu:=by
 refine F.ok xh (fun vs H Q E h=>?_) (fun cP A outer s H vs Q E hr h=>?_)
 ·obtain⟨p,rfl,_⟩:=h
  rfl
 obtain⟨p,rfl,G,hok,q⟩:=h
 refine⟨_,(ak (aG (ao xj hr.q rfl (aa (pv 0) (aa (cb rfl CA CB) af))))),?_⟩
 refine⟨_,rfl,_,_,rfl,by rw [aY];exact G,by decide +kernel,by rw [cz];exact hok,fun l H' sm hl z=>?_⟩
 rw [cz] at z
 exact q _ _ sm ⟨l,rfl,hl,z⟩
theorem CC:aB ["found"] ["found"] (au mS):=⟨rfl,rfl,rfl,by decide +kernel,rfl,by decide +kernel,by decide +kernel⟩
theorem CD {Xs Xt:aay} (F:dz K "read_kind" "read_kind" mS f fd) (bN:dn P w K mg base "is_small_word" 3 ["text"] (EH km)) (bf:mg "len"=none) (Xu:mg "int"=none)
  (CF:mg "KIND_WORDS"=some (.ref Xs)) (CG:∀H,bH K H Xs [tx bF,tx bG]) (Oy:mg "COUNTS"=some (.ref Xt)) (Oz:∀H,bH K H Xt [tx [48],tx [49],tx [50],tx [51],tx [52]]) :
  aX P w K mg base dS 4 f fd ["found"] (Nv K):=by
 have CH:RelV (.ref Xs) (.ref Xs):=rfl
 have OA:RelV (.ref Xt) (.ref Xt):=rfl
 refine F.ok CC (fun vs H Q E h=>?_) (fun cP A outer s H vs Q E hr h=>?_)
 ·obtain⟨l,k,rfl,_⟩:=h
  rfl
 obtain⟨l,⟨n,c,b⟩,rfl,Y,hn,B,q⟩:=h
 have hn:br n=true:=hn
 have B:c<=4:=B
 have z:H l=some (.lst [tx (if b=true then bG else bF),tx n,tx [48+c]]):=Y
 refine⟨_,(ag (aU (PW.pt (oF (aE fE (aK aH rfl bf abq (aa (pv 0) af)) ae (aQ _)) (mq (aE cX (aq aw (pv 0) ae (fun _ _=>rfl)) (cb rfl CF CH) (by with_unfolding_all rfl)))))
 bq
 aF)
 (ag (aU (fK (bU (ao bN hr.q rfl (aa (aq aw (pv 0) ae (fun _ _=>rfl)) af))))
 bq
 aF)
 (ag (aU (aE cX (aq aw (pv 0) ae (fun _ _=>rfl)) (cb rfl Oy OA) (by with_unfolding_all rfl))
 bq
 aF)
 (ak (aG (a8 (aa (aq aw (pv 0) ae (fun _ _=>rfl)) (aa (cy yW rfl Xu PyProof.Rows.Boot.«int» (aa (aq aw (pv 0) ae (fun _ _=>rfl)) af)) (aa (cS du (aq aw (pv 0) ae (fun _ _=>rfl)) aP (aQ _)) af))))))))),?_⟩
 try dsimp only [jZ,GP]
 refine⟨_,rfl,l,_,rfl,.inl (aC.of z),rfl,_,rfl,bw ?_⟩
 refine⟨_,rfl,l,_,0,_,rfl,rfl,aC.of z,rfl,Xs,_,rfl,.inr (CG _),rfl,rfl,_,rfl,?_⟩
 have G:Pl (tx (if b=true then bG else bF)) [tx bF,tx bG]=true:=by cases b <;> decide +kernel
 rw [G]
 refine bw ?_
 refine⟨_,rfl,l,_,1,_,rfl,rfl,aC.of z,rfl,S n,rfl,by have:=fh hn;rw [aY];omega,fun H1 s1=>⟨_,rfl,?_⟩⟩
 rw [EG,hn]
 refine bw ?_
 have me:=s1 _ _ z
 refine⟨_,rfl,l,_,2,_,rfl,rfl,aC.of me,rfl,Xt,_,rfl,.inr (Oz _),rfl,rfl,_,rfl,?_⟩
 have J:Pl (tx [48+c]) [tx [48],tx [49],tx [50],tx [51],tx [52]]=true:=by
  rcases(by omega:c=0\/c=1\/c=2\/c=3\/c=4) with e|e|e|e|e <;> subst e <;> decide +kernel
 rw [J]
 refine bw ?_
 have L:PySem.intText? (S [48+c])=some (c:Int):=by
  rcases(by omega:c=0\/c=1\/c=2\/c=3\/c=4) with e|e|e|e|e <;> subst e <;> decide +kernel
 refine⟨_,rfl,l,_,1,_,rfl,rfl,aC.of me,rfl,_,rfl,l,_,2,_,rfl,rfl,aC.of me,rfl,_,_,rfl,L,(by rw [aY];show 1<=640;decide),?_⟩
 refine⟨_,rfl,l,_,0,_,rfl,rfl,aC.of me,rfl,rfl,(by show 3<=aaj;decide),fun t Z=>?_⟩
 have O:decide (tx (if b=true then bG else bF)=V.str (aad "lasting"))=b:=by cases b <;> decide +kernel
 rw [O]
 exact q _ _ (ah.trans s1 (ai Z _)) ⟨t,rfl,bH.of aj⟩
end
section
variable {P:abn} {w:abU} {K:aaa} {mg:Str->Option aae} {base:Heap} {f:aay} {fd:abZ} {c:Cl}
theorem QY {xs:List V} {v:V}:r6 (xs++[v]) (-1)=some v:=by
 unfold r6
 have e:RZ (xs++[v]).length (-1)=some xs.length:=by
  unfold RZ
  rw [aab,ado,if_neg (by decide)]
  simp
  omega
 rw [e]
 simp
theorem tO:aB ["found","mark","rows","piece"] ["found","mark"] (au xf):=⟨rfl,rfl,rfl,by decide +kernel,rfl,by decide +kernel,by decide +kernel⟩
theorem K8 (F:dz K "parted" "parted" xf f fd):aX P w K mg base dS 1 f fd ["found","mark"] qG:=by
 refine F.ok tO (fun vs H Q E h=>?_) (fun cP A outer s H vs Q E hr h=>?_)
 ·obtain⟨l,ps,m,rfl,_⟩:=h
  rfl
 obtain⟨l,ps,m,rfl,hL,hz,q⟩:=h
 refine⟨_,(ag (az (i:=2) tO.nd rfl (abi rfl) (bb (aa (bb af) af)))
 (ag (cB abB rfl (aN (pv 0)) (bj (i:=3) tO.nd rfl (abi rfl))
 (ak (aU (aE du (pv 3) (pv 1) (aQ _))
 (ak (bp (cU aaN abm abp bz (pv 2) (aa (bb af) af))))
 (ak (bp (cU aaN abm abp bz (aq aw (pv 2) (RS MH ae) (fun _ _=>rfl)) (aa (pv 3) af)))))))
 (ak (aG (pv 2))))),?_⟩
 try dsimp only [jZ,GP]
 refine⟨(by show 0<=aaj;decide),fun O J=>⟨(by show 1<=aaj;decide),fun lr sg=>?_⟩⟩
 have n0r:O≠lr:=fun z=>by rw [<- z,aj] at sg;cases sg
 have Xv:H lr=none:=(ai J _).free sg
 have s0:ah H (upd (upd H O (.lst [])) lr (.lst [V.ref O])):=ah.trans (ai J _) (ai sg _)
 refine⟨_,rfl,l,rfl,⟨_,aC.of (s0 _ _ hL)⟩,bR (K:=K) (a:=l) (xs:=ps.map tx) (fun i σ H'=>∃(bs:List aay) (o:Option V),σ=[some (.ref l),some (tx m),some (.ref lr),o]/\ah H H'/\H' lr=some (.lst (bs.map V.ref)) /\
   Paired (fun row b=>H b=none/\b≠lr/\H' b=some (.lst (row.map tx))) (cG m (ps.take i) [[]]) bs/\bs.Nodup)
  ⟨[O],none,rfl,s0,aj,.cons ⟨J,n0r,by rw [aD n0r];exact aj⟩ .nil,by simp⟩ (fun i σ H' _ ⟨_,_,_,sm,_⟩=>aC.of (sm _ _ hL)) ?_ ?_⟩
 ·rintro i y σ H' hi ⟨bs,o,rfl,sm,B,pr,nd⟩
  have T8:i<ps.length:=by
   have:=(aaf.mp hi).1
   simpa using this
  obtain rfl:y=tx ps[i]:=by
   rw [abc,Ge9 T8] at hi
   exact(abA hi).symm
  have Ms:cG m (ps.take (i+1)) [[]]=jO m ps[i] (cG m (ps.take i) [[]]):=by
   rw [aao T8,qE]
  have a2:bs.length<=20002:=by
   have z:=aai pr
   have z2:=ui m (ps.take i) [[]]
   rw [aat] at z2
   simp only [aal,abN] at z2
   omega
  refine⟨_,rfl,_,rfl,rfl,_,rfl,?_⟩
  rw [mz]
  refine dQ (fun e=>?_) (fun e=>?_)
  ·have Y:ps[i]=m:=of_decide_eq_true e
   refine⟨_,rfl,.inl ⟨rfl,_,aC.of B⟩,(by show 0<=aaj;decide),fun b G=>?_⟩
   have nbr:b≠lr:=fun z=>by rw [z,B] at G;cases G
   have L:H b=none:=sm.free G
   have QW:upd H' b (.lst []) lr=some (.lst (bs.map V.ref)):=by rw [aD (aea nbr)];exact B
   refine⟨lr,_,_,rfl,rfl,QW,(by rw [Lm9];exact jg (by omega)),bs++[b],_,rfl,ah.ba (ah.ba sm L _) Xv _,?_,?_,?_⟩
   ·rw [aj,aau]
    rfl
   ·rw [Ms]
    unfold jO
    rw [if_pos Y]
    have p2:Paired (fun row x=>H x=none/\x≠lr/\upd (upd H' b (.lst [])) lr (.lst (bs.map V.ref++[V.ref b])) x=some (.lst (row.map tx))) (cG m (ps.take i) [[]]) bs:=L2.Paired.bA pr fun row x z=>⟨z.1,z.2.1,by
     rw [aD z.2.1,aD (aO z.2.2 G)]
     exact z.2.2⟩
    exact p2.snoc ⟨L,nbr,by rw [aD nbr];exact aj⟩
   ·rw [adC]
    refine⟨nd,by simp,?_⟩
    intro x hx y hy
    rw [aap.mp hy]
    intro z
    subst z
    obtain⟨row,_,a1⟩:=pG pr hx
    rw [a1.2.2] at G
    cases G
  ·have Y:ps[i]≠m:=fun z=>by rw [decide_eq_true z] at e;exact e rfl
   obtain⟨a1,row,b1,b,e1,Z,p1,G⟩:=uf pr (wo m _ _ (by simp))
   have La:row.length<=20000:=by
    have z:=wq m (ps.take i) [[]] 0 (by intro r hr;rw [aap.mp hr];exact aar _) row (by rw [e1];simp)
    rw [aat] at z
    omega
   have ZK:H' lr=some (.lst (b1.map V.ref++[V.ref b])):=by
    rw [B,Z,aau]
    rfl
   refine⟨_,rfl,_,rfl,lr,_,_,V.ref b,rfl,rfl,aC.of ZK,QY,.inl ⟨rfl,_,aC.of G.2.2⟩,_,rfl,b,_,_,rfl,rfl,G.2.2,(by rw [Lm9];exact jg (by omega)),?_⟩
   refine⟨bs,_,rfl,ah.ba sm G.1 _,by rw [aD (aea G.2.1)];exact B,?_,nd⟩
   rw [Ms]
   unfold jO
   rw [if_neg Y,e1,ahI,show(a1++[row]).getLastD []=row by simp,Z]
   rw [Z,adC] at nd
   refine aiv ?_ ⟨G.1,G.2.1,?_⟩
   ·refine dU p1 fun r x hx z=>⟨z.1,z.2.1,?_⟩
    rw [aD (nd.2.2 x hx b (by simp))]
    exact z.2.2
   ·rw [aj,aau]
    rfl
 ·rintro σ H' ⟨bs,o,rfl,sm,B,pr,nd⟩
  rw [Lm9,abM] at pr
  refine⟨_,rfl,q _ _ sm ⟨lr,_,rfl,Xv,B,?_⟩⟩
  exact uh (L2.Paired.bA pr fun row b z=>(⟨b,rfl,z.1,z.2.2⟩:R8 H H' row (V.ref b)))
end
section
variable {P:abn} {w:abU} {K:aaa} {mg:Str->Option aae} {base:Heap} {f:aay} {fd:abZ} {c:Cl}
theorem pW:aB ["found"] ["found"] (au fV):=⟨rfl,rfl,rfl,by decide +kernel,rfl,by decide +kernel,by decide +kernel⟩
theorem pX (F:dz K "check_two_names" "check_two_names" fV f fd) (dN:dn P w K mg base "is_name" 2 ["text"] (EH ie)) (bf:mg "len"=none):aX P w K mg base dS 3 f fd ["found"] Ny:=by
 refine F.ok pW (fun vs H Q E h=>?_) (fun cP A outer s H vs Q E hr h=>?_)
 ·obtain⟨l,a,m,b,rfl,_⟩:=h
  rfl
 obtain⟨l,a,m,b,rfl,z,ha,B,q⟩:=h
 refine⟨_,(ak (aU (PW.pt (oF (aE fE (aK aH rfl bf abq (aa (pv 0) af)) ae (aQ _)) (oF (fK (bU (ao dN hr.q rfl (aa (aq aw (pv 0) ae (fun _ _=>rfl)) af)))) (mq (fK (bU (ao dN hr.q rfl (aa (aq aw (pv 0) ae (fun _ _=>rfl)) af))))))))
 bq
 aF)),?_⟩
 refine⟨_,rfl,l,_,rfl,.inl (aC.of z),rfl,_,rfl,bw ?_⟩
 refine⟨_,rfl,l,_,0,_,rfl,rfl,aC.of z,rfl,S a,rfl,by have:=gk ha;rw [aY];omega,fun H1 s1=>⟨_,rfl,?_⟩⟩
 rw [qC,ha]
 refine bw ⟨_,rfl,l,_,2,_,rfl,rfl,aC.of (s1 _ _ z),rfl,S b,rfl,by have:=gk B;rw [aY];omega,fun U s2=>⟨_,rfl,?_⟩⟩
 rw [qC,B]
 exact bw (q _ (ah.trans s1 s2))
theorem CI:aB ["self","left","right"] ["self","left","right"] (au mR):=⟨rfl,rfl,rfl,by decide +kernel,rfl,by decide +kernel,by decide +kernel⟩
theorem CJ (F:dz K "__init__" "Look.__init__" mR f fd):aX P w K mg base dS 1 f fd ["self","left","right"] (kr K):=by
 refine F.ok CI (fun vs H Q E h=>?_) (fun cP A outer s H vs Q E hr h=>?_)
 ·obtain⟨C,p,dx,l,r,rfl,_⟩:=h
  rfl
 obtain⟨C,p,dx,l,r,rfl,T,B,q⟩:=h
 refine⟨_,(ag (ps_fld (pv 0) (pv 1) rfl)
 (ak (ps_fld (pv 0) (pv 2) rfl))),?_⟩
 refine⟨_,rfl,_,rfl,p,C,dx,[],rfl,B,T.cl,T.nL,(by show 0<1000;decide),_,rfl,_,rfl,p,C,dx,_,rfl,aj,T.cl,T.nR,(by show 1<1000;decide),?_⟩
 refine q _ _ aj ?_ ?_ ?_ ?_ fun b o e z=>?_
 ·rw [aV,if_neg (by decide +kernel),aV,if_pos rfl]
 ·rw [aV,if_pos rfl]
 ·rw [aV,if_neg (by decide +kernel),aV,if_neg (by decide +kernel)]
  rfl
 ·rw [aV,if_neg (by decide +kernel),aV,if_neg (by decide +kernel)]
  rfl
 ·rw [aD z,aD z]
  exact e
theorem Bw {H:Hp} {C:aay} {a b:V} {Q:VK} (T:yZ K C) (q:∀x dx fs H',ah H H'->H x=none->H' x=some (.ins C dx fs)->fs.lookup ("left":Str)=some a->fs.lookup ("right":Str)=some b->fs.lookup ("holds":Str)=none->fs.lookup ("word":Str)=none->Q (.ref x) H') :
  ∀x dx,H x=none->H dx=none->dx≠x->kr K (.ref x::([a,b]++[])) (upd (upd H dx (.own x)) x (.ins C dx [])) (fun v U=>v=.cg/\Q (.ref x) U) E0:=fun x dx z Xw Zi=>by
 refine⟨C,x,dx,a,b,rfl,T,aj,fun H' fs h1 h2 B F G kp=>⟨rfl,q x dx fs H' (fun b o e=>kp b o ?_ (aO e z)) z h1 h2 B F G⟩⟩
 rw [aD (aO e z),aD (aO e Xw)]
 exact e
theorem CK:aB ["found"] ["found"] (au mV):=⟨rfl,rfl,rfl,by decide +kernel,rfl,by decide +kernel,by decide +kernel⟩
theorem CL (F:dz K "read_look" "read_look" mV f fd) (cA:dn P w K mg base "check_two_names" 3 ["found"] Ny) (Ts:yZ K c.same) (Tu:yZ K c.unlike)
  (Ie:P8 P w K mg base "Same" c.same 1 ["self","left","right"] (kr K)) (xl:P8 P w K mg base "Unlike" c.unlike 1 ["self","left","right"] (kr K)):aX P w K mg base dS 4 f fd ["found"] (Nz c):=by
 refine F.ok CK (fun vs H Q E h=>?_) (fun cP A outer s H vs Q E hr h=>?_)
 ·obtain⟨l,k,rfl,_⟩:=h
  rfl
 obtain⟨l,⟨sm,a,b⟩,rfl,Y,ha,Z,q⟩:=h
 have z:H l=some (.lst [tx a,tx (if sm=true then jn else eO),tx b]):=Y
 refine⟨_,(ag (bp (ao cA hr.q rfl (aa (pv 0) af)))
 (ag (aU (aE du (aq aw (pv 0) ae (fun _ _=>rfl)) aP (aQ _))
 (ak (aG (qr Ie hr.q rfl (aa (aq aw (pv 0) ae (fun _ _=>rfl)) (aa (aq aw (pv 0) ae (fun _ _=>rfl)) af)))))
 aF)
 (ag (aU (aE du (aq aw (pv 0) ae (fun _ _=>rfl)) aP (aQ _))
 (ak (aG (qr xl hr.q rfl (aa (aq aw (pv 0) ae (fun _ _=>rfl)) (aa (aq aw (pv 0) ae (fun _ _=>rfl)) af)))))
 aF)
 (ak MD)))),?_⟩
 try dsimp only [jZ,GP]
 refine⟨_,rfl,l,a,_,b,rfl,z,ha,Z,fun H1 s1=>?_⟩
 have me:=s1 _ _ z
 refine⟨_,rfl,l,_,1,_,rfl,rfl,aC.of me,rfl,rfl,_,rfl,?_⟩
 cases sm with
 | true =>
  have e:decide (tx (if true=true then jn else eO)=V.str (aad "same"))=true:=by decide +kernel
  rw [e]
  refine dP ⟨_,rfl,l,_,0,_,rfl,rfl,aC.of me,rfl,_,rfl,l,_,2,_,rfl,rfl,aC.of me,rfl,Bw Ts fun x dx fs H' s' L h1 h2 B G J=>?_⟩
  exact q _ _ (ah.trans s1 s') ⟨x,dx,fs,rfl,s1.free L,h1,h2,B,G,J⟩
 | false =>
  have e:decide (tx (if false=true then jn else eO)=V.str (aad "same"))=false:=by decide +kernel
  have O:decide (tx (if false=true then jn else eO)=V.str (aad "unlike"))=true:=by decide +kernel
  rw [e]
  refine bw ⟨_,rfl,l,_,1,_,rfl,rfl,aC.of me,rfl,rfl,_,rfl,?_⟩
  rw [O]
  refine dP ⟨_,rfl,l,_,0,_,rfl,rfl,aC.of me,rfl,_,rfl,l,_,2,_,rfl,rfl,aC.of me,rfl,Bw Tu fun x dx fs H' s' L h1 h2 B G J=>?_⟩
  exact q _ _ (ah.trans s1 s') ⟨x,dx,fs,rfl,s1.free L,h1,h2,B,G,J⟩
theorem CM:aB ["found"] ["found"] (au mW):=⟨rfl,rfl,rfl,by decide +kernel,rfl,by decide +kernel,by decide +kernel⟩
theorem CN (F:dz K "read_pair" "read_pair" mW f fd) (cA:dn P w K mg base "check_two_names" 3 ["found"] Ny):aX P w K mg base dS 4 f fd ["found"] (NA K):=by
 refine F.ok CM (fun vs H Q E h=>?_) (fun cP A outer s H vs Q E hr h=>?_)
 ·obtain⟨l,k,rfl,_⟩:=h
  rfl
 obtain⟨l,⟨a,b⟩,rfl,B,ha,G,q⟩:=h
 have z:H l=some (.lst [tx a,tx [61],tx b]):=B
 refine⟨_,(ag (bp (ao cA hr.q rfl (aa (pv 0) af)))
 (ag (aU (aE fE (aq aw (pv 0) ae (fun _ _=>rfl)) aP (aQ _))
 bq
 aF)
 (ak (aG (a8 (aa (aq aw (pv 0) ae (fun _ _=>rfl)) (aa (aq aw (pv 0) ae (fun _ _=>rfl)) af))))))),?_⟩
 refine⟨_,rfl,l,a,_,b,rfl,z,ha,G,fun H1 s1=>?_⟩
 have me:=s1 _ _ z
 refine⟨_,rfl,l,_,1,_,rfl,rfl,aC.of me,rfl,rfl,_,rfl,?_⟩
 have e:decide (tx [61]=V.str (aad "="))=true:=by decide +kernel
 rw [e]
 refine bw ⟨_,rfl,l,_,0,_,rfl,rfl,aC.of me,rfl,_,rfl,l,_,2,_,rfl,rfl,aC.of me,rfl,(by show 2<=aaj;decide),fun t J=>?_⟩
 exact q _ _ (ah.trans s1 (ai J _)) ⟨t,rfl,bH.of aj⟩
theorem Lb {ks:List Lk} (h:∀k∈ks,aI k.l=true/\aI k.r=true):∀q∈ks.map jP,([44]:Cs)∉q:=by
 intro q z hm
 obtain⟨k,hk,rfl⟩:=aaw.mp z
 have hn:=h k hk
 unfold jP at hm
 rcases aaK.mp hm with e|hm
 ·exact oi hn.1 e.symm
 rcases aaK.mp hm with e|hm
 ·revert e;cases k.same <;> decide
 ·exact oi hn.2 (aap.mp hm).symm
theorem Lc {ks:List (Cs × Cs)} (h:∀k∈ks,aI k.1=true/\aI k.2=true):∀q∈ks.map jQ,([44]:Cs)∉q:=by
 intro q z hm
 obtain⟨k,hk,rfl⟩:=aaw.mp z
 have hn:=h k hk
 unfold jQ at hm
 rcases aaK.mp hm with e|hm
 ·exact oi hn.1 e.symm
 rcases aaK.mp hm with e|hm
 ·revert e;decide
 ·exact oi hn.2 (aap.mp hm).symm
theorem JT:(aad ",")=S [44]:=by decide +kernel
theorem UH:(aad ";")=S [59]:=by decide +kernel
theorem zC:aB ["found"] ["found"] (au kZ):=⟨rfl,rfl,rfl,by decide +kernel,rfl,by decide +kernel,by decide +kernel⟩
theorem zD (F:dz K "read_looks" "read_looks" kZ f fd) (fW:dn P w K mg base "parted" 1 ["found","mark"] qG) (ny:dn P w K mg base "read_look" 4 ["found"] (Nz c)):aX P w K mg base dS 5 f fd ["found"] (Jt c):=by
 refine F.ok zC (fun vs H Q E h=>?_) (fun cP A outer s H vs Q E hr h=>?_)
 ·obtain⟨l,k,rfl,_⟩:=h
  rfl
 obtain⟨l,ks,rfl,Y,h0,hz,hn,q⟩:=h
 refine⟨_,(ak (aG (bW [] rfl (by kernel_rfl) (aN (ao fW hr.q rfl (aa (pv 0) (aa aP af)))) (fun _ _ _ _ _=>bL) (fun _ _ _ _ _=>(ao ny hr.q rfl (aa (pv 0) af)))))),?_⟩
 refine⟨_,rfl,l,_,[44],by rw [JT];rfl,Y,?_,fun v H1 s1 R=>?_⟩
 ·have z:=wt (m:=[44]) (ks.map jP) 3 (by intro q hq;obtain⟨k,_,rfl⟩:=aaw.mp hq;exact aar _)
  rw [Lm9] at z
  omega
 have e:=ik (m:=[44]) (ks.map jP) [] (by simpa using h0) (Lb hn)
 rw [aca] at e
 rw [e,aca] at R
 obtain⟨lr,vs,rfl,sg,O,pr⟩:=R
 have hlen:=aai pr
 rw [Lm9] at hlen
 refine⟨lr,rfl,⟨_,aC.of O⟩,fun D L=>?_⟩
 refine cq (K:=K) (xs:=vs) ks (fun H0 H b y=>qz c H0 H b y) (fun _ _ _ _ _ k h=>h.keep k) (fun _ _ _ _ _ d h=>h.cM d) (jg (by omega)) L (aC.of O) hlen (fun i x k H' R V hk sm Z=>?_) (fun H' ys sm B po=>?_)
 ·have hi:i<vs.length:=(aaf.mp V).1
  have UI:i<ks.length:=(aaf.mp hk).1
  have ex:vs[i]=x:=(aaf.mp V).2
  have J:ks[i]=k:=(aaf.mp hk).2
  obtain⟨b,G,hb,La⟩:=paired_at pr i (by rw [Lm9];exact UI) hi
  rw [aaO,J] at La
  rw [ex] at G
  subst G
  have hm:=hn k (by rw [<- J];exact aan UI)
  exact⟨_,rfl,b,k,rfl,sm _ _ La,hm.1,hm.2,fun v jc s2 ho=>Z v jc s2 ho⟩
 ·refine q _ _ (ah.trans s1 sm) ⟨D,ys,rfl,s1.free L,B,L2.Paired.bA po fun b y z=>z.cM fun _ h=>s1.free h⟩
theorem zE:aB ["found"] ["found"] (au lh):=⟨rfl,rfl,rfl,by decide +kernel,rfl,by decide +kernel,by decide +kernel⟩
theorem zF (F:dz K "read_pairs" "read_pairs" lh f fd) (fW:dn P w K mg base "parted" 1 ["found","mark"] qG) (nz:dn P w K mg base "read_pair" 4 ["found"] (NA K)):aX P w K mg base dS 5 f fd ["found"] (Ju K):=by
 refine F.ok zE (fun vs H Q E h=>?_) (fun cP A outer s H vs Q E hr h=>?_)
 ·obtain⟨l,k,rfl,_⟩:=h
  rfl
 obtain⟨l,ks,rfl,Y,h0,hz,hn,q⟩:=h
 refine⟨_,(ak (aG (bW [] rfl (by kernel_rfl) (aN (ao fW hr.q rfl (aa (pv 0) (aa aP af)))) (fun _ _ _ _ _=>bL) (fun _ _ _ _ _=>(ao nz hr.q rfl (aa (pv 0) af)))))),?_⟩
 refine⟨_,rfl,l,_,[44],by rw [JT];rfl,Y,?_,fun v H1 s1 R=>?_⟩
 ·have z:=wt (m:=[44]) (ks.map jQ) 3 (by intro q hq;obtain⟨k,_,rfl⟩:=aaw.mp hq;exact aar _)
  rw [Lm9] at z
  omega
 have e:=ik (m:=[44]) (ks.map jQ) [] (by simpa using h0) (Lc hn)
 rw [aca] at e
 rw [e,aca] at R
 obtain⟨lr,vs,rfl,sg,O,pr⟩:=R
 have hlen:=aai pr
 rw [Lm9] at hlen
 refine⟨lr,rfl,⟨_,aC.of O⟩,fun D L=>?_⟩
 refine cq (K:=K) (xs:=vs) ks (fun _ H b y=>Pair K H b y) (fun _ _ _ _ _ k h=>h.keep k) (fun _ _ _ _ _ _ h=>h) (jg (by omega)) L (aC.of O) hlen (fun i x k H' R V hk sm Z=>?_) (fun H' ys sm B po=>?_)
 ·have hi:i<vs.length:=(aaf.mp V).1
  have UI:i<ks.length:=(aaf.mp hk).1
  have ex:vs[i]=x:=(aaf.mp V).2
  have J:ks[i]=k:=(aaf.mp hk).2
  obtain⟨b,G,hb,La⟩:=paired_at pr i (by rw [Lm9];exact UI) hi
  rw [aaO,J] at La
  rw [ex] at G
  subst G
  have hm:=hn k (by rw [<- J];exact aan UI)
  exact⟨_,rfl,b,k,rfl,sm _ _ La,hm.1,hm.2,fun v jc s2 ho=>Z v jc s2 ho⟩
 ·exact q _ _ (ah.trans s1 sm) ⟨D,ys,rfl,s1.free L,B,po⟩
theorem CO:aB ["word","found"] ["word","found"] (au mU):=⟨rfl,rfl,rfl,by decide +kernel,rfl,by decide +kernel,by decide +kernel⟩
theorem CP (F:dz K "read_part" "read_part" mU f fd) (lI:dn P w K mg base "read_looks" 5 ["found"] (Jt c)) (lJ:dn P w K mg base "read_pairs" 5 ["found"] (Ju K)) (iR:dn P w K mg base "row_of_facts" 5 ["found"] (R7 K)) :
  aX P w K mg base dS 6 f fd ["word","found"] (NB K c):=by
 refine F.ok CO (fun vs H Q E h=>?_) (fun cP A outer s H vs Q E hr h=>?_)
 ·obtain⟨l,n,ps,p,rfl,_⟩:=h
  rfl
 obtain⟨l,n,ps,p,rfl,G,hz,J,q⟩:=h
 refine⟨_,(ag (aU (aE du (pv 0) aP (aQ _))
 (ak (aG (ao lI hr.q rfl (aa (pv 1) af))))
 aF)
 (ag (aU (aE du (pv 0) aP (aQ _))
 (ak (aG (ao lJ hr.q rfl (aa (pv 1) af))))
 aF)
 (ak (aG (ao iR hr.q rfl (aa (pv 1) af)))))),?_⟩
 refine⟨_,rfl,rfl,_,rfl,?_⟩
 cases J with
 | lk h0 hl h =>
  have e:decide (tx (wordAt 2)=V.str (aad "look"))=true:=by decide +kernel
  rw [e]
  exact dP ⟨_,rfl,l,_,rfl,G,h0,hl,h,fun v H' s' z=>q v H' s' z⟩
 | pr h0 hl h =>
  have e:decide (tx (wordAt 4)=V.str (aad "look"))=false:=by decide +kernel
  have B:decide (tx (wordAt 4)=V.str (aad "tell"))=true:=by decide +kernel
  rw [e]
  refine bw ⟨_,rfl,rfl,_,rfl,?_⟩
  rw [B]
  exact dP ⟨_,rfl,l,_,rfl,G,h0,hl,h,fun v H' s' z=>q v H' s' z⟩
 | fs hn h =>
  have e:decide (tx (wordAt n)=V.str (aad "look"))=false:=by rcases hn with e|e|e <;> subst e <;> decide +kernel
  have B:decide (tx (wordAt n)=V.str (aad "tell"))=false:=by rcases hn with e|e|e <;> subst e <;> decide +kernel
  rw [e]
  refine bw ⟨_,rfl,rfl,_,rfl,?_⟩
  rw [B]
  exact bw ⟨_,rfl,l,_,_,rfl,G,hz,h,fun v H' s' z=>q v H' s' z⟩
end
section
variable {P:abn} {w:abU} {K:aaa} {mg:Str->Option aae} {base:Heap} {f:aay} {fd:abZ} {c:Cl}
noncomputable abbrev iS:List V:=[tx iE,tx iF,tx gm,tx mF,tx gn]
theorem OB {n:Nat} (hn:n<=5):fI iS (some (n:Int)) none=iS.drop n:=by
 rcases(by omega:n=0\/n=1\/n=2\/n=3\/n=4\/n=5) with e|e|e|e|e|e <;> subst e <;> rfl
theorem QZ {m n:Nat} (h:m<=n) (hn:n<5):Pl (tx (wordAt n)) (iS.drop m)=true:=by
 rcases(by omega:n=0\/n=1\/n=2\/n=3\/n=4) with e|e|e|e|e <;> subst e <;>
 rcases(by omega:m=0\/m=1\/m=2\/m=3\/m=4) with e|e|e|e|e <;> subst e <;> first|omega|decide +kernel
theorem xo (m:Nat):(iS.drop m).all jK=true:=by
 rw [ab3]
 intro x z
 have q:=aeF z
 rcases aaK.mp q with e|q
 ·rw [e];rfl
 rcases aaK.mp q with e|q
 ·rw [e];rfl
 rcases aaK.mp q with e|q
 ·rw [e];rfl
 rcases aaK.mp q with e|q
 ·rw [e];rfl
 ·rw [aap.mp q];rfl
theorem Ig {n:Nat} (hn:n<5):(∃z,iS[n]?=some z/\Mm z (tx (wordAt n))=true)/\∀m z,m<n->iS[m]?=some z->Mm z (tx (wordAt n))=false:=by
 rcases(by omega:n=0\/n=1\/n=2\/n=3\/n=4) with e|e|e|e|e <;> subst e <;> refine⟨⟨_,rfl,by decide +kernel⟩,fun m z hm hz=>?_⟩
 ·omega
 all_goals
  rcases(by omega:m=0\/m=1\/m=2\/m=3) with e|e|e|e <;> subst e <;> first|omega|(cases hz;decide +kernel)
theorem dC:aB ["found","title","parts","earliest","piece","word"] ["found"] (au mT):=⟨rfl,rfl,rfl,by decide +kernel,rfl,by decide +kernel,by decide +kernel⟩
theorem CQ {UJ:aay} {u1:aae} (F:dz K "read_rule" "read_rule" mT f fd) (bQ:dn P w K mg base "piece_at" 1 ["found","place"] vA) (bN:dn P w K mg base "is_small_word" 3 ["text"] (EH km)) (fW:dn P w K mg base "parted" 1 ["found","mark"] qG)
  (nA:dn P w K mg base "read_part" 6 ["word","found"] (NB K c)) (nB:mg "RULE_WORD"=some u1) (nC:RelV (tx fN) u1) (qR:mg "PART_WORDS"=some (.ref UJ)) (qS:∀H,bH K H UJ iS) (CS:∃o,K.lookup UJ=some o/\o.cls=.type "tuple"/\o.dict=none) :
  aX P w K mg base dS 7 f fd ["found"] (NC K c):=by
 have qU:RelV (.ref UJ) (.ref UJ):=rfl
 refine F.ok dC (fun vs H Q E h=>?_) (fun cP A outer s H vs Q E hr h=>?_)
 ·obtain⟨l,title,L,rfl,_⟩:=h
  rfl
 obtain⟨l,title,L,rfl,hL,hz,R,q⟩:=h
 have hu:=oG hr
 refine⟨_,(ag (az (i:=1) dC.nd rfl (abi rfl) (ao bQ hr.q rfl (aa (pv 0) (aa ae af))))
 (ag (aU (PW.pt (oF (aE fE (ao bQ hr.q rfl (aa (pv 0) (aa ae af))) (cb rfl nB nC) (aQ _)) (oF (fK (bU (ao bN hr.q rfl (aa (pv 1) af)))) (mq (aE fE (ao bQ hr.q rfl (aa (pv 0) (aa ae af))) aP (aQ _))))))
 bq
 aF)
 (ag (az (i:=2) dC.nd rfl (abi rfl) EE)
 (ag (az (i:=3) dC.nd rfl (abi rfl) ae)
 (ag (cB abB rfl (aN (ao fW hr.q rfl (aa (bI cT (pv 0) (bB ae) di) (aa aP af)))) (bj (i:=4) dC.nd rfl (abi rfl))
 (ag (az (i:=5) dC.nd rfl (abi rfl) (ao bQ hr.q rfl (aa (pv 4) (aa ae af))))
 (ag (aU (aE cX (pv 5) (bI Jj (cb rfl qR qU) (bB (pv 3)) di) (by with_unfolding_all rfl))
 bq
 aF)
 (ag (az (i:=3) dC.nd rfl (abi rfl) (aJ gY (cU ag6 ag4 PySem.F.type_tuple_index Ng (cb rfl qR qU) (aa (pv 5) af)) ae))
 (ak (Jl hu (pv 2) (pv 5) (ao nA hr.q rfl (aa (pv 5) (aa (bI cT (pv 4) (bB ae) di) af))) rfl))))))
 (ag (aU (PW.pt (mr (GB (sf hu aP (pv 2))) (je (GB (sf hu aP (pv 2))))))
 bq
 aF)
 (ak (aG (a8 (aa (pv 1) (aa (pv 2) af))))))))))),?_⟩
 try dsimp only [jZ,GP]
 refine⟨_,rfl,l,_,1,rfl,hL,hz,?_⟩
 have c2:=fh R.tt
 refine⟨_,rfl,l,_,0,rfl,hL,hz,rfl,_,rfl,?_⟩
 have e0:decide (tx ((iG title L).getD 0 [])=tx fN)=true:=decide_eq_true rfl
 rw [e0]
 refine bw ⟨_,rfl,S title,rfl,by rw [aY];omega,fun H1 s1=>⟨_,rfl,?_⟩⟩
 rw [EG,R.tt]
 have me:=s1 _ _ hL
 refine bw ⟨_,rfl,l,_,2,rfl,me,hz,rfl,_,rfl,?_⟩
 have B:decide (tx ((iG title L).getD 2 [])=V.str (aad ":"))=true:=by
  show decide (tx [58]=V.str (aad ":"))=true
  decide +kernel
 rw [B]
 refine bw ?_
 intro d hd
 have ZL:H d=none:=s1.free hd
 have s2:ah H (upd H1 d (.dK [])):=ah.ba s1 ZL _
 refine⟨_,rfl,_,rfl,l,_,rfl,.inl (.inl (s2 _ _ hL)),fun l2 gW=>?_⟩
 have UK:fI ((iG title L).map tx) (some (3:Int)) none=(glue [59] (L.map fun x=>wordAt x.n::x.ps)).map tx:=qw (k:=3) (by rw [Lm9];show 3<=(glue [59] (L.map fun x=>wordAt x.n::x.ps)).length+3;omega)
 rw [UK]
 have a5:(glue [59] (L.map fun x=>wordAt x.n::x.ps)).length<=20000:=by
  have z:(iG title L).length=(glue [59] (L.map fun x=>wordAt x.n::x.ps)).length+3:=rfl
  omega
 have UL:H l2=none:=s2.free gW
 have s3:ah H (upd (upd H1 d (.dK [])) l2 (.lst ((glue [59] (L.map fun x=>wordAt x.n::x.ps)).map tx))):=ah.ba s2 UL _
 have nd2:d≠l2:=fun z=>by rw [<- z,aj] at gW;cases gW
 refine⟨l2,_,[59],by rw [UH];rfl,aj,a5,fun v U s4 RW=>?_⟩
 have acp:∀q∈L.map (fun x=>wordAt x.n::x.ps),([59]:Cs)∉q:=by
  intro q hq hm
  obtain⟨x,J,rfl⟩:=aaw.mp hq
  rcases aaK.mp hm with e|hm
  ·have ZM:=(sk R.inc x J).2
   revert e
   rcases(by omega:x.n=0\/x.n=1\/x.n=2\/x.n=3\/x.n=4) with e|e|e|e|e <;> rw [e] <;> decide
  ·exact R.no x J hm
 have eP:=ik (m:=[59]) (L.map fun x=>wordAt x.n::x.ps) [] (by simpa using R.ne) acp
 rw [aca] at eP
 rw [eP,aca] at RW
 obtain⟨lr,rows,rfl,sg,hR,pr⟩:=RW
 have Sq:=aai pr
 rw [Lm9] at Sq
 have G:U d=some (.dK []):=s4 _ _ (by rw [aD nd2];exact aj)
 have c0:ah H U:=ah.trans s3 s4
 have agH:L.length<=5:=Jw R.inc (by omega)
 refine⟨lr,rfl,⟨_,aC.of hR⟩,bR (K:=K) (a:=lr) (xs:=rows) (fun i σ H'=>∃(kvs:List (Key × V)) (m:Nat) (o4 o5:Option V),σ=[some (.ref l),some (tx title),some (.ref d),some (.int m),o4,o5]/\m<=5/\(∀x∈L.drop i,m<=x.n) /\
   (∀b o,b≠d->U b=some o->H' b=some o)/\(∀b,H' b=none->U b=none)/\H' d=some (.dK kvs)/\dB K c (upd H1 d (.dK [])) H' (L.take i) kvs)
  ⟨[],0,none,none,rfl,by omega,fun _ _=>ab4 _,fun _ _ _ h=>h,fun _ h=>h,G,.nil⟩ (fun i σ H' _ ⟨_,_,_,_,_,_,_,k1,_⟩=>aC.of (k1 _ _ (ml hR G (by intro z;cases z)) hR)) ?_ ?_⟩
 ·rintro i y σ H' hi ⟨kvs,m,o4,o5,rfl,Z,a1,k1,k2,Mu,O⟩
  have a6:i<rows.length:=(aaf.mp hi).1
  have Ih:i<L.length:=by omega
  have ey:rows[i]=y:=(aaf.mp hi).2
  obtain⟨b,eb,c1,ZN⟩:=paired_at pr i (by rw [Lm9];exact Ih) a6
  rw [aaO] at ZN
  rw [ey] at eb
  subst eb
  have Vu:L[i]∈L:=aan Ih
  generalize J:L[i]=x at ZN Vu
  have ZM:=(sk R.inc x Vu).2
  have b0:m<=x.n:=a1 x (by rw [<- J];exact acm (by rw [agb,Nat.add_zero];exact Ge9 Ih))
  have a4:b≠d:=ml ZN G (by intro z;cases z)
  have Y:=k1 _ _ a4 ZN
  have a2:(wordAt x.n::x.ps).length<=20000:=by
   have z:=ER (m:=[59]) (L.map fun x=>wordAt x.n::x.ps) (wordAt x.n::x.ps) (aaw.mpr ⟨x,Vu,rfl⟩)
   omega
  refine⟨_,rfl,b,_,0,rfl,Y,a2,?_⟩
  refine⟨_,rfl,_,rfl,_,rfl,UJ,_,rfl,qS _,fun p H3 Vv hp=>?_⟩
  rw [OB Z] at hp
  refine⟨p,_,rfl,.inr hp,rfl,xo m,_,rfl,?_⟩
  have ein:(if true=true then !Pl (tx ((wordAt x.n::x.ps).getD 0 [])) (iS.drop m) else Pl (tx ((wordAt x.n::x.ps).getD 0 [])) (iS.drop m))=false:=by
   rw [if_pos rfl]
   show(!Pl (tx (wordAt x.n)) (iS.drop m))=false
   rw [QZ b0 ZM]
   rfl
  rw [ein]
  refine bw ?_
  obtain⟨wp1,wp2⟩:=Ig ZM
  refine⟨.inr (.inl ⟨rfl,CS⟩),_,rfl,UJ,iS,_,x.n,rfl,rfl,qS _,rfl,xo 0,wp1,wp2,_,_,rfl,rfl,?_⟩
  have a3:=Vv _ _ Y
  refine⟨_,rfl,_,rfl,_,rfl,b,_,rfl,.inl (.inl a3),fun l3 Bx=>?_⟩
  have ec:fI ((wordAt x.n::x.ps).map tx) (some (1:Int)) none=x.ps.map tx:=qw (k:=1) (by rw [Lm9,aal];omega)
  rw [ec]
  have ZO:H3 d=some (.dK kvs):=Vv _ _ Mu
  have nd3:d≠l3:=aO ZO Bx
  refine⟨l3,x.n,x.ps,x.p,rfl,aj,by rw [aal] at a2;omega,R.ok x Vu,fun v H5 s5 WN=>?_⟩
  have OC:ah H3 H5:=ah.trans (ai Bx _) s5
  have Xx:H5 d=some (.dK kvs):=OC _ _ ZO
  have UE:kvs.length<=5:=by
   have z:=aai O
   rw [aat] at z
   omega
  have B5:bM kvs (abx (S (wordAt x.n)):Key)=none:=AZ fun kv a7 e=>by
   obtain⟨z,hz,b6⟩:=pG O a7
   rw [b6.1] at e
   have B:wordAt z.n=wordAt x.n:=oK (agh e)
   have ia:=ND R.inc i Ih
   rw [J] at ia
   have mi:=ia.1 z hz
   have:=wu (by omega) ZM B
   omega
  have kp:Kp (upd H1 d (.dK [])) H5 (upd H5 d (.dK (kvs++[(abx (S (wordAt x.n)),v)]))):=Kp.upd aj Xx (by intro xs z;cases z) (by intro o u z;cases z)
  have b7:∀b,H5 b=none->U b=none:=fun b h=>k2 b (ah.free (ah.trans Vv OC) h)
  refine⟨_,rfl,_,rfl,d,_,rfl,Kw.k (k:=(abx (S (wordAt x.n)):Key)) Xx (jg (by omega)),?_⟩
  rw [EB _ B5]
  refine⟨kvs++[(abx (S (wordAt x.n)),v)],x.n+1,_,_,rfl,by omega,fun z hz=>?_,fun b' o hb hH=>?_,fun b' h=>b7 b' (kp.yK b' h),aj,?_⟩
  ·have z2:=A1 R.inc i Ih z hz
   rw [J] at z2
   omega
  ·rw [aD hb]
   exact OC _ _ (Vv _ _ (k1 _ _ hb hH))
  ·rw [aao Ih,J]
   refine((dB.keep (Kp.same (ah.trans Vv OC)) O).keep kp).snoc ⟨rfl,?_⟩
   refine dA.keep kp (dA.cM (fun b h=>?_) WN)
   have h3:H3 b=none:=(ai Bx _).free h
   exact(ah.trans (ai gW _) s4).free (k2 b (Vv.free h3))
 ·rintro σ H' ⟨kvs,m,o4,o5,rfl,Z,a1,k1,k2,Mu,O⟩
  have ZK:rows.length=L.length:=Sq.symm
  rw [ZK,abM] at O
  have sH:ah H H':=fun b o e=>k1 b o (aO e ZL) (c0 b o e)
  have fin:∀t,H' t=none->Q (.ref t) (upd H' t (.tup [tx title,.ref d])):=fun t ht=>by
   have ntd:d≠t:=aO Mu ht
   refine q t d kvs _ (ah.trans sH (ai ht _)) aj ZL (by rw [aD ntd];exact Mu) ?_
   exact L2.Paired.bA O fun x kv z=>⟨z.1,dA.cM (fun b h=>ah.free (ah.ba s1 ZL _) h) (z.2.keep (Kp.same (ai ht _)))⟩
  refine⟨_,rfl,d,_,rfl,gj.k (k:=(abx (aad "take"):Key)) Mu,_,rfl,?_⟩
  obtain⟨x,Vu,acs⟩:=R.hd
  have Ld:=A2 O Vu
  rcases acs with e|e
  ·rw [e] at Ld
   have B:(S (wordAt 0))=aad "take":=by decide +kernel
   rw [B] at Ld
   rw [Ld]
   exact bw ⟨_,rfl,_,rfl,(by show 2<=aaj;decide),fin⟩
  ·rw [e] at Ld
   have B:(S (wordAt 1))=aad "keep":=by decide +kernel
   rw [B] at Ld
   have two:∀b:Bool,(if b=true then (∃a o,V.ref d=.ref a/\gj H' a (.str (aad "keep")) o/\False) else True)->True:=fun _ _=>trivial
   refine dQ (fun _=>⟨_,rfl,d,_,rfl,gj.k (k:=(abx (aad "keep"):Key)) Mu,_,rfl,?_⟩) (fun _=>bw ⟨_,rfl,_,rfl,(by show 2<=aaj;decide),fin⟩)
   rw [Ld]
   exact bw ⟨_,rfl,_,rfl,(by show 2<=aaj;decide),fin⟩
end
section
variable {P:abn} {w:abU} {K:aaa} {mg:Str->Option aae} {base:Heap} {f:aay} {fd:abZ} {c:Cl}
theorem FH:aB ["name"] ["name"] (au pQ):=⟨rfl,rfl,rfl,by decide +kernel,rfl,by decide +kernel,by decide +kernel⟩
theorem FI {z:aae} (F:dz K "is_great" "is_great" pQ f fd) (Cy:mg "GREAT"=some z) (Cz:RelV (.str kj) z):aX P w K mg base dS 1 f fd ["name"] vz:=by
 refine F.ok FH (fun vs H Q E h=>?_) (fun cP A outer s H vs Q E hr h=>?_)
 ·obtain⟨p,rfl,_⟩:=h
  rfl
 obtain⟨p,rfl,h1,B,q⟩:=h
 refine⟨_,(ak (aG (cS iw (aq j7 (pv 0) ae (fun _ _=>rfl)) (cb rfl Cy Cz) (by with_unfolding_all rfl)))),?_⟩
 have hl:1<=(S p).length:=by
  rw [aY]
  cases p with
  | nil=>exact absurd rfl h1
  | cons a r=>simp
 refine⟨_,rfl,S p,0,_,rfl,rfl,(by rw [aY];exact sz (by omega)),qD hl,_,_,rfl,rfl,?_⟩
 rw [ad2,cz]
 exact q
theorem gB:aB ["facts","found","fact","name"] ["facts"] (au lu):=⟨rfl,rfl,rfl,by decide +kernel,rfl,by decide +kernel,by decide +kernel⟩
theorem zG (F:dz K "open_names" "open_names" lu f fd) (da:dn P w K mg base "is_great" 1 ["name"] vz) (Ii:mg "list"=none):aX P w K mg base dS 2 f fd ["facts"] (Jy K):=by
 refine F.ok gB (fun vs H Q E h=>?_) (fun cP A outer s H vs Q E hr h=>?_)
 ·obtain⟨l,us,fs,rfl,_⟩:=h
  rfl
 obtain⟨l,us,fs,rfl,hL,hP,hz,hok,a1,q⟩:=h
 have hu:=oG hr
 refine⟨_,(ag (az (i:=1) gB.nd rfl (abi rfl) EE)
 (ag (cB abB rfl (aN (pv 0)) (bj (i:=2) gB.nd rfl (abi rfl))
 (ak (cB abB rfl (vN (aq ax (pv 2) ae (fun _ _=>rfl))) (bj (i:=3) gB.nd rfl (abi rfl))
 (ak (aU (bU (ao da hr.q rfl (aa (pv 3) af)))
 (ak (Jl hu (pv 1) (pv 3) fB rfl))
 aF)))))
 (ak (aG (cy (wa rfl) rfl Ii PyProof.Rows.Boot.«list» (aa (pv 1) af)))))),?_⟩
 try dsimp only [jZ,GP]
 intro d hd
 have L:=aai hP
 refine⟨_,rfl,l,rfl,⟨_,aC.of ((ai hd _) _ _ hL)⟩,bR (K:=K) (a:=l) (xs:=us) (fun i σ H'=>∃V G,σ=[some (.ref l),some (.ref d),V,G]/\ah H H'/\H' d=some (.dK ((eQ ((fs.take i).flatMap (·.as)) []).map zc))/\(eQ ((fs.take i).flatMap (·.as)) []).length<=((fs.take i).flatMap (·.as)).length)
  ⟨none,none,rfl,ai hd _,aj,aar _⟩ (fun i σ H' _ ⟨_,_,_,sm,_⟩=>aC.of (sm _ _ hL)) ?_ ?_⟩
 ·rintro i y σ H' hi ⟨V,G,rfl,sm,Mu,Nf⟩
  have FJ:i<us.length:=(aaf.mp hi).1
  have Ij:i<fs.length:=by omega
  have ey:us[i]=y:=(aaf.mp hi).2
  obtain⟨t,Y,Z,h1,h2⟩:=paired_at hP i Ij FJ
  rw [ey] at Z
  subst Z
  have J:bH K H' t [tx fs[i].k,.ref Y]:=h1.same sm
  have fok:=hok fs[i] (aan Ij)
  generalize Sr:eQ ((fs.take i).flatMap (·.as)) []=FL at Mu Nf
  have agL:∀j,eQ (((fs.take i).flatMap (·.as))++(fs[i].as.take j)) []=eQ (fs[i].as.take j) FL:=fun j=>by rw [so,Sr]
  have agM:((fs.take i).flatMap (·.as)).length+fs[i].as.length<=20000:=by
   have e:fs.flatMap (·.as)=(fs.take i).flatMap (·.as)++(fs[i].as++(fs.drop (i+1)).flatMap (·.as)):=by
    rw [<- ad1,<- acq,<- aeJ Ij,aeq]
   have z:=congrArg adO e
   rw [aab,aab] at z
   omega
  refine⟨_,rfl,t,_,1,_,rfl,rfl,J,rfl,Y,rfl,⟨_,h2.same sm⟩,BR (K:=K) (a:=Y) (xs:=fs[i].as.map tx) (fun j σ U=>∃G,σ=[some (.ref l),some (.ref d),some (.ref t),G]/\ah H U/\U d=some (.dK ((eQ (fs[i].as.take j) FL).map zc))/\(eQ (fs[i].as.take j) FL).length<=FL.length+j)
   ⟨_,rfl,sm,Mu,aar _⟩ (fun j σ U _ ⟨_,_,tu,_⟩=>h2.same tu) ?_ ?_⟩
  ·rintro j y σ U O ⟨o3',rfl,tu,OD,gW⟩
   have B:j<fs[i].as.length:=by
    have:=(aaf.mp O).1
    simpa using this
   obtain rfl:y=tx fs[i].as[j]:=by
    rw [abc,Ge9 B] at O
    exact(abA O).symm
   have qQ:=gk (fok.2.2 _ (aan B))
   have st:eQ (fs[i].as.take (j+1)) FL=jh fs[i].as[j] (eQ (fs[i].as.take j) FL):=by
    rw [aao B,so]
    rfl
   have Bx:=KD fs[i].as[j] (eQ (fs[i].as.take j) FL)
   refine⟨_,rfl,fs[i].as[j],rfl,(fun z=>by rw [z] at qQ;simp at qQ),by omega,_,rfl,?_⟩
   refine dQ (fun g=>?_) (fun g=>?_)
   ·refine⟨_,rfl,_,rfl,d,_,rfl,Kw.k (k:=(abx (S fs[i].as[j]):Key)) OD (by rw [Lm9];exact jg (by omega)),?_⟩
    rw [NI]
    refine⟨_,rfl,ah.ba tu hd _,?_,?_⟩
    ·rw [aj,st]
     unfold jh
     rw [if_pos g]
    ·rw [st];omega
   ·refine⟨_,rfl,tu,?_,?_⟩
    ·rw [st]
     unfold jh
     rw [if_neg g]
     exact OD
    ·rw [st];omega
  ·rintro σ U ⟨o3',rfl,tu,OD,gW⟩
   rw [Lm9,abM] at OD gW
   have e:eQ ((fs.take (i+1)).flatMap (·.as)) []=eQ fs[i].as FL:=by
    rw [aao Ij,acq,so,Sr]
    simp
   refine⟨_,_,rfl,tu,by rw [e];exact OD,?_⟩
   rw [e,aao Ij,acq,aab,show([fs[i]].flatMap (·.as))=fs[i].as by simp]
   omega
 ·rintro σ H' ⟨V,G,rfl,sm,Mu,Nf⟩
  rw [<- L,abM] at Mu
  refine⟨_,rfl,d,_,rfl,Mu,fun l2 gW=>?_⟩
  refine q _ _ (ah.trans sm (ai gW _)) ⟨l2,rfl,sm.free gW,?_⟩
  rw [aj,NH,abY]
  rfl
theorem CT:aB ["self","title","parts"] ["self","title","parts"] (au mX):=⟨rfl,rfl,rfl,by decide +kernel,rfl,by decide +kernel,by decide +kernel⟩
theorem CU (F:dz K "__init__" "Rule.__init__" mX f fd) (T:sr K c.rule) (lK:dn P w K mg base "open_names" 2 ["facts"] (Jy K)):aX P w K mg base dS 3 f fd ["self","title","parts"] (vB K c):=by
 refine F.ok CT (fun vs H Q E h=>?_) (fun cP A outer s H vs Q E hr h=>?_)
 ·obtain⟨H0,p,dx,d,title,L,kvs,u0,rfl,_⟩:=h
  rfl
 obtain⟨H0,p,dx,d,title,L,kvs,u0,rfl,hp,Y,yK,hd,pa,h5,hok,Xy,q⟩:=h
 have hu:=oG hr
 refine⟨_,(ag (ps_fld (pv 0) (pv 1) rfl)
 (ag (ps_fld (pv 0) (dG hu (pv 2) aP (bb af) ⟨rfl,rfl,rfl,rfl⟩) rfl)
 (ag (ps_fld (pv 0) (dG hu (pv 2) aP (bb af) ⟨rfl,rfl,rfl,rfl⟩) rfl)
 (ag (ps_fld (pv 0) (dG hu (pv 2) aP (bb af) ⟨rfl,rfl,rfl,rfl⟩) rfl)
 (ag (ps_fld (pv 0) (dG hu (pv 2) aP (bb af) ⟨rfl,rfl,rfl,rfl⟩) rfl)
 (ag (ps_fld (pv 0) (dG hu (pv 2) aP (bb af) ⟨rfl,rfl,rfl,rfl⟩) rfl)
 (ak (ps_fld (pv 0) (ao lK hr.q rfl (aa (aJ cZ (pe_fld (pv 0) rfl) (pe_fld (pv 0) rfl)) af)) rfl)))))))),?_⟩
 try dsimp only [jZ,GP]
 refine hid9 fun _ Yh=>?_
 have npd:p≠d:=ml hp hd (by intro z;cases z)
 have Vw:∀(o:HO),(∃fs,o=.ins c.rule dx fs)->(∀xs,o≠.tup xs)/\∀ob u,o≠.jY ob u:=fun o ⟨fs,e⟩=>⟨(by intro xs z;rw [e] at z;cases z),(by intro ob u z;rw [e] at z;cases z)⟩
 refine⟨_,rfl,_,rfl,p,c.rule,dx,[],rfl,hp,T.cl,T.n1,(by show 0<1000;decide),?_⟩
 refine Yh _ _ ?_
 try dsimp only
 refine hid9 fun _ Yh=>?_
 have key:∀(H1:Hp) (Ik:List (Str × V)) (n:Str),H1 p=some (.ins c.rule dx Ik)->H1 d=some (.dK kvs)->dB K c H0 H1 L kvs->(∀b,H1 b=none->H0 b=none)->(∀b o,H b=some o->b≠p->H1 b=some o) ->
   ∀l,H1 l=none->∀y:V,(upd (upd H1 l (.lst [])) p (.ins c.rule dx (bV n y Ik))) p=some (.ins c.rule dx (bV n y Ik))/\(upd (upd H1 l (.lst [])) p (.ins c.rule dx (bV n y Ik))) d=some (.dK kvs) /\
    Kp H0 H1 (upd (upd H1 l (.lst [])) p (.ins c.rule dx (bV n y Ik)))/\H0 l=none/\upd H1 l (.lst []) l=some (.lst [])/\upd H1 l (.lst []) d=some (.dK kvs)/\upd H1 l (.lst []) p=some (.ins c.rule dx Ik)/\dB K c H0 (upd H1 l (.lst [])) L kvs /\
    (∀b o,H b=some o->b≠p->(upd (upd H1 l (.lst [])) p (.ins c.rule dx (bV n y Ik))) b=some o)/\Kp H0 (upd H1 l (.lst [])) (upd (upd H1 l (.lst [])) p (.ins c.rule dx (bV n y Ik))):=by
  intro H1 Ik n a7 a2 acx Xz a6 l hl y
  have s1:=ai hl (.lst [])
  have a3:=s1 _ _ a7
  have Kz:Kp H0 (upd H1 l (.lst [])) (upd (upd H1 l (.lst [])) p (.ins c.rule dx (bV n y Ik))):=Kp.upd Y a3 (Vw _ ⟨_,rfl⟩).1 (Vw _ ⟨_,rfl⟩).2
  refine⟨aj,by rw [aD (aea npd)];exact s1 _ _ a2,(Kp.same s1).trans Kz,Xz l hl,aj,s1 _ _ a2,a3,acx.keep (Kp.same s1),fun b o e Z=>?_,Kz⟩
  rw [aD Z]
  exact s1 _ _ (a6 b o e Z)
 have R1:Kp H0 H (upd H p (.ins c.rule dx (bV "title" (tx title) []))):=Kp.upd Y hp (Vw _ ⟨_,rfl⟩).1 (Vw _ ⟨_,rfl⟩).2
 have g1p:(upd H p (.ins c.rule dx (bV "title" (tx title) []))) p=some (.ins c.rule dx (bV "title" (tx title) [])):=aj
 have g1d:(upd H p (.ins c.rule dx (bV "title" (tx title) []))) d=some (.dK kvs):=by rw [aD (aea npd)];exact hd
 have g1k:∀b o,H b=some o->b≠p->(upd H p (.ins c.rule dx (bV "title" (tx title) []))) b=some o:=fun b o e Z=>by rw [aD Z];exact e
 have UM:=pa.keep R1
 have OE:∀b,(upd H p (.ins c.rule dx (bV "title" (tx title) []))) b=none->H0 b=none:=fun b h=>yK b (R1.yK b h)
 generalize upd H p _=H1 at R1 g1p g1d g1k UM OE ⊢
 refine⟨_,rfl,d,rfl,.inl ⟨_,.inl g1d⟩,(by show 0<=aaj;decide),fun l1 mj=>?_⟩
 obtain⟨XA,XC,UN,acz,acA,acB,acC,acD,XD,Ss⟩:=key H1 _ "taken" g1p g1d UM OE g1k l1 mj ((bM kvs (abx (aad "take"):Key)).getD (.ref l1))
 refine⟨_,gj.k (k:=(abx (aad "take"):Key)) acB,_,rfl,p,c.rule,dx,_,rfl,acC,T.cl,T.n2,(by show 1<1000;decide),?_⟩
 refine Yh _ _ ?_
 try dsimp only
 refine hid9 fun _ Yh=>?_
 have B:=(G7 acD h5 hok (n:=0) (by decide) acz acA).keep Ss
 rw [show S (wordAt 0)=aad "take" by decide +kernel] at B
 have UO:=UM.keep UN
 have OG:∀b,_=none->H0 b=none:=fun b h=>OE b (UN.yK b h)
 generalize b0:upd (upd H1 l1 (.lst [])) p (.ins c.rule dx (bV "taken" ((bM kvs (abx (aad "take"):Key)).getD (.ref l1)) (bV "title" (tx title) [])))=U at XA XC UN XD Ss UO OG B  ⊢
 have g2p:=XA
 have g2d:=XC
 have g2k:=XD
 refine⟨_,rfl,d,rfl,.inl ⟨_,.inl g2d⟩,(by show 0<=aaj;decide),fun l2 gW=>?_⟩
 obtain⟨XE,XF,Q0,acE,acF,acG,acH,acI,XG,Su⟩:=key U _ "kept" g2p g2d UO OG g2k l2 gW ((bM kvs (abx (aad "keep"):Key)).getD (.ref l2))
 refine⟨_,gj.k (k:=(abx (aad "keep"):Key)) acG,_,rfl,p,c.rule,dx,_,rfl,acH,T.cl,T.n3,(by show 2<1000;decide),?_⟩
 refine Yh _ _ ?_
 try dsimp only
 refine hid9 fun _ Yh=>?_
 have G:=(G7 acI h5 hok (n:=1) (by decide) acE acF).keep Su
 rw [show S (wordAt 1)=aad "keep" by decide +kernel] at G
 have UP:=UO.keep Q0
 have OH:∀b,_=none->H0 b=none:=fun b h=>OG b (Q0.yK b h)
 have B:=B.keep Q0
 generalize b6:upd (upd U l2 (.lst [])) p (.ins c.rule dx (bV "kept" ((bM kvs (abx (aad "keep"):Key)).getD (.ref l2)) (bV "taken" ((bM kvs (abx (aad "take"):Key)).getD (.ref l1)) (bV "title" (tx title) []))))=H3 at XE XF Q0 XG Su UP OH G B ⊢
 have g3p:=XE
 have g3d:=XF
 have g3k:=XG
 refine⟨_,rfl,d,rfl,.inl ⟨_,.inl g3d⟩,(by show 0<=aaj;decide),fun O Bx=>?_⟩
 obtain⟨XH,XI,OI,acJ,acK,acL,acM,acN,XJ,Sv⟩:=key H3 _ "looks" g3p g3d UP OH g3k O Bx ((bM kvs (abx (aad "look"):Key)).getD (.ref O))
 refine⟨_,gj.k (k:=(abx (aad "look"):Key)) acL,_,rfl,p,c.rule,dx,_,rfl,acM,T.cl,T.n4,(by show 3<1000;decide),?_⟩
 refine Yh _ _ ?_
 try dsimp only
 refine hid9 fun _ Yh=>?_
 have J:=(T2 acN h5 hok acJ acK).keep Sv
 rw [show S (wordAt 2)=aad "look" by decide +kernel] at J
 have UQ:=UP.keep OI
 have OJ:∀b,_=none->H0 b=none:=fun b h=>OH b (OI.yK b h)
 have B:=B.keep OI
 have G:=G.keep OI
 generalize b7:upd (upd H3 O (.lst [])) p (.ins c.rule dx (bV "looks" ((bM kvs (abx (aad "look"):Key)).getD (.ref O)) (bV "kept" ((bM kvs (abx (aad "keep"):Key)).getD (.ref l2)) (bV "taken" ((bM kvs (abx (aad "take"):Key)).getD (.ref l1)) (bV "title" (tx title) [])))))=H4 at XH XI OI XJ Sv UQ OJ J B G ⊢
 have g4p:=XH
 have g4d:=XI
 have g4k:=XJ
 refine⟨_,rfl,d,rfl,.inl ⟨_,.inl g4d⟩,(by show 0<=aaj;decide),fun l4 OK=>?_⟩
 obtain⟨XM,XN,Le,acO,acP,acQ,acR,acS,XO,Sw⟩:=key H4 _ "given" g4p g4d UQ OJ g4k l4 OK ((bM kvs (abx (aad "put"):Key)).getD (.ref l4))
 refine⟨_,gj.k (k:=(abx (aad "put"):Key)) acQ,_,rfl,p,c.rule,dx,_,rfl,acR,T.cl,T.n5,(by show 4<1000;decide),?_⟩
 refine Yh _ _ ?_
 try dsimp only
 refine hid9 fun _ Yh=>?_
 have v4:=(G7 acS h5 hok (n:=3) (by decide) acO acP).keep Sw
 rw [show S (wordAt 3)=aad "put" by decide +kernel] at v4
 have UR:=UQ.keep Le
 have OL:∀b,_=none->H0 b=none:=fun b h=>OJ b (Le.yK b h)
 have B:=B.keep Le
 have G:=G.keep Le
 have J:=J.keep Le
 generalize c0:upd (upd H4 l4 (.lst [])) p (.ins c.rule dx (bV "given" ((bM kvs (abx (aad "put"):Key)).getD (.ref l4)) (bV "looks" ((bM kvs (abx (aad "look"):Key)).getD (.ref O)) (bV "kept" ((bM kvs (abx (aad "keep"):Key)).getD (.ref l2)) (bV "taken" ((bM kvs (abx (aad "take"):Key)).getD (.ref l1)) (bV "title" (tx title) []))))))=H5 at XM XN Le XO Sw UR OL v4 B G J ⊢
 have g5p:=XM
 have g5d:=XN
 have g5k:=XO
 refine⟨_,rfl,d,rfl,.inl ⟨_,.inl g5d⟩,(by show 0<=aaj;decide),fun l5 Gz=>?_⟩
 obtain⟨XQ,XR,Il,acT,acU,acV,acW,acX,XS,Sx⟩:=key H5 _ "told" g5p g5d UR OL g5k l5 Gz ((bM kvs (abx (aad "tell"):Key)).getD (.ref l5))
 refine⟨_,gj.k (k:=(abx (aad "tell"):Key)) acV,_,rfl,p,c.rule,dx,_,rfl,acW,T.cl,T.n6,(by show 5<1000;decide),?_⟩
 refine Yh _ _ ?_
 try dsimp only
 have v5:=(T3 acX h5 hok acT acU).keep Sx
 rw [show S (wordAt 4)=aad "tell" by decide +kernel] at v5
 have acY:=UR.keep Il
 have OM:∀b,_=none->H0 b=none:=fun b h=>OL b (Il.yK b h)
 have B:=B.keep Il
 have G:=G.keep Il
 have J:=J.keep Il
 have v4:=v4.keep Il
 generalize c1:upd (upd H5 l5 (.lst [])) p (.ins c.rule dx (bV "told" ((bM kvs (abx (aad "tell"):Key)).getD (.ref l5)) (bV "given" ((bM kvs (abx (aad "put"):Key)).getD (.ref l4)) (bV "looks" ((bM kvs (abx (aad "look"):Key)).getD (.ref O)) (bV "kept" ((bM kvs (abx (aad "keep"):Key)).getD (.ref l2)) (bV "taken" ((bM kvs (abx (aad "take"):Key)).getD (.ref l1)) (bV "title" (tx title) [])))))))=H6 at XQ XR Il XS Sx acY OM v5 B G J v4 ⊢
 have ZP:=XQ
 have g6d:=XR
 have g6k:=XS
 generalize P5:(bV "told" ((bM kvs (abx (aad "tell"):Key)).getD (.ref l5)) (bV "given" ((bM kvs (abx (aad "put"):Key)).getD (.ref l4)) (bV "looks" ((bM kvs (abx (aad "look"):Key)).getD (.ref O)) (bV "kept" ((bM kvs (abx (aad "keep"):Key)).getD (.ref l2)) (bV "taken" ((bM kvs (abx (aad "take"):Key)).getD (.ref l1)) (bV "title" (tx title) []))))))=Mv at ZP ⊢
 have lk:∀n:Str,Mv.lookup n=if n="told" then some ((bM kvs (abx (aad "tell"):Key)).getD (.ref l5)) else if n="given" then some ((bM kvs (abx (aad "put"):Key)).getD (.ref l4)) else if n="looks" then some ((bM kvs (abx (aad "look"):Key)).getD (.ref O)) else if n="kept" then some ((bM kvs (abx (aad "keep"):Key)).getD (.ref l2)) else if n="taken" then some ((bM kvs (abx (aad "take"):Key)).getD (.ref l1)) else if n="title" then some (tx title) else none:=fun n=>by
  rw [<- P5,aV,aV,aV,aV,aV,aV]
  rfl
 obtain⟨lt,ut,et,nt,ht,pt⟩:=id B
 obtain⟨lk2,uk,ek,nk,hk,pk⟩:=id G
 have lkT:Mv.lookup ("taken":Str)=some (.ref lt):=by
  rw [lk,if_neg (by decide +kernel),if_neg (by decide +kernel),if_neg (by decide +kernel),if_neg (by decide +kernel),if_pos rfl,et]
 have lkK:Mv.lookup ("kept":Str)=some (.ref lk2):=by
  rw [lk,if_neg (by decide +kernel),if_neg (by decide +kernel),if_neg (by decide +kernel),if_pos rfl,ek]
 have acZ:Mv.length<1000:=by
  rw [<- P5]
  show 6<1000
  decide
 have zl1:=aai pt
 have zl2:=aai pk
 have hfew:=Xy.few
 have ac0:(uW title L).take++(uW title L).keep=zi 0 L++zi 1 L:=rfl
 rw [ac0,aab] at hfew
 refine⟨_,rfl,p,c.rule,dx,Mv,_,rfl,ZP,T.cl,T.n2,lkT,_,rfl,p,c.rule,dx,Mv,_,rfl,ZP,T.cl,T.n3,lkK,lt,lk2,_,_,rfl,rfl,ht,hk,sz (by omega),fun l6 Lf=>?_⟩
 have s6:=ai Lf (.lst (ut++uk))
 refine⟨l6,_,zi 0 L++zi 1 L,rfl,aj,bx (L2.Paired.bA pt fun _ _ z=>z.keep (H0:=H0) (Kp.same s6)) (L2.Paired.bA pk fun _ _ z=>z.keep (H0:=H0) (Kp.same s6)),by rw [aab];omega,Xy.heads,Xy.abC,fun v7 H7 s7 T7=>?_⟩
 have a1:=ah.trans s6 s7
 have a4:=a1 _ _ ZP
 refine⟨_,rfl,p,c.rule,dx,Mv,rfl,a4,T.cl,T.n7,acZ,?_⟩
 have kp7:Kp H0 H7 (upd H7 p (.ins c.rule dx (bV "names" v7 Mv))):=Kp.upd Y a4 (Vw _ ⟨_,rfl⟩).1 (Vw _ ⟨_,rfl⟩).2
 have Lg:Kp H0 H6 (upd H7 p (.ins c.rule dx (bV "names" v7 Mv))):=(Kp.same a1).trans kp7
 have US:∀n:Str,n≠"names"->(bV "names" v7 Mv).lookup n=Mv.lookup n:=fun n hn=>by rw [aV,if_neg hn]
 refine q _ (bV "names" v7 Mv) aj ⟨?_,⟨_,?_,B.keep Lg⟩,⟨_,?_,G.keep Lg⟩,⟨_,?_,J.keep Lg⟩,⟨_,?_,v4.keep Lg⟩,⟨_,?_,v5.keep Lg⟩,⟨v7,?_,?_⟩,?_⟩ (fun b o e Z=>?_)
 ·rw [US _ (by decide +kernel),lk,if_neg (by decide +kernel),if_neg (by decide +kernel),if_neg (by decide +kernel),if_neg (by decide +kernel),if_neg (by decide +kernel),if_pos rfl]
  rfl
 ·rw [US _ (by decide +kernel),lkT,et]
 ·rw [US _ (by decide +kernel),lkK,ek]
 ·rw [US _ (by decide +kernel),lk,if_neg (by decide +kernel),if_neg (by decide +kernel),if_pos rfl]
 ·rw [US _ (by decide +kernel),lk,if_neg (by decide +kernel),if_pos rfl]
 ·rw [US _ (by decide +kernel),lk,if_pos rfl]
 ·rw [aV,if_pos rfl]
 ·obtain⟨ln,en,nn,hn⟩:=T7
  have a5:H6 ln=none:=s6.free nn
  exact⟨ln,en,OM ln a5,kp7.new _ _ (OM ln a5) hn⟩
 ·rw [US _ (by decide +kernel),lk,if_neg (by decide +kernel),if_neg (by decide +kernel),if_neg (by decide +kernel),if_neg (by decide +kernel),if_neg (by decide +kernel),if_neg (by decide +kernel)]
 ·rw [aD Z]
  exact a1 _ _ (g6k b o e Z)
theorem zH:aB ["self"] ["self"] (au lj):=⟨rfl,rfl,rfl,by decide +kernel,rfl,by decide +kernel,by decide +kernel⟩
theorem zI (F:dz K "calls" "Rule.calls" lj f fd) (T:sr K c.rule) (bf:mg "len"=none):aX P w K mg base dS 1 f fd ["self"] (vD K c):=by
 refine F.ok zH (fun vs H Q E h=>?_) (fun cP A outer s H vs Q E hr h=>?_)
 ·obtain⟨H0,v,r,rfl,_⟩:=h
  rfl
 obtain⟨H0,v,r,rfl,J,q⟩:=h
 obtain⟨a,dx,fs,rfl,n,h1,RF⟩:=J
 obtain⟨vt,G,lt,us,rfl,nt,L,pt⟩:=RF.taken
 have B:=aai pt
 refine⟨_,(ak (aG (cS du (aK aH rfl bf abq (aa (pe_fld (pv 0) rfl) af)) ae (aQ _)))),?_⟩
 refine⟨_,rfl,a,c.rule,dx,fs,_,rfl,h1,T.cl,T.n2,G,lt,_,rfl,.inl (aC.of L),rfl,?_⟩
 have e:decide (V.int (us.length:Int)=V.int 0)=decide (r.take=[]):=by
  rw [decide_eq_decide]
  constructor
  ·intro z
   have O:(us.length:Int)=0:=by injection z
   exact adx (by omega)
  ·intro z
   rw [z] at B
   rw [<- B]
   rfl
 rw [e]
 exact q
theorem CV:aB ["self","kinds","rules"] ["self","kinds","rules"] (au mY):=⟨rfl,rfl,rfl,by decide +kernel,rfl,by decide +kernel,by decide +kernel⟩
theorem CW (F:dz K "__init__" "Book.__init__" mY f fd) (T:Qn K c.book):aX P w K mg base dS 1 f fd ["self","kinds","rules"] (vC K c):=by
 refine F.ok CV (fun vs H Q E h=>?_) (fun cP A outer s H vs Q E hr h=>?_)
 ·obtain⟨p,dx,l,r,rfl,_⟩:=h
  rfl
 obtain⟨p,dx,l,r,rfl,B,q⟩:=h
 refine⟨_,(ag (ps_fld (pv 0) (pv 1) rfl)
 (ak (ps_fld (pv 0) (pv 2) rfl))),?_⟩
 refine⟨_,rfl,_,rfl,p,c.book,dx,[],rfl,B,T.cl,T.n1,(by show 0<1000;decide),_,rfl,_,rfl,p,c.book,dx,_,rfl,aj,T.cl,T.n2,(by show 1<1000;decide),?_⟩
 refine q _ _ aj ?_ ?_ fun b o e z=>?_
 ·rw [aV,if_neg (by decide +kernel),aV,if_pos rfl]
 ·rw [aV,if_pos rfl]
 ·rw [aD z,aD z]
  exact e
end
section
variable {P:abn} {w:abU} {K:aaa} {mg:Str->Option aae} {base:Heap} {f:aay} {fd:abZ} {c:Cl}
theorem aA {α:Type} {l:List α} {i:Nat} {x:α} (h:l[i]?=some x):∃hi:i<l.length,l[i]=x:=aaf.mp h
theorem ir:aB ["kinds","rules","line","found","reading","kind"] ["kinds","rules","line"] (au m4):=⟨rfl,rfl,rfl,by decide +kernel,rfl,by decide +kernel,by decide +kernel⟩
theorem CY {u1:aae} (F:dz K "hear_line" "hear_line" m4 f fd) (T:sr K c.rule) (jy:dn P w K mg base "line_pieces" 4 ["line"] Nu) (nE:dn P w K mg base "read_rule" 7 ["found"] (NC K c)) (nF:dn P w K mg base "read_kind" 4 ["found"] (Nv K))
  (Im:P8 P w K mg base "Rule" c.rule 3 ["self","title","parts"] (vB K c)) (nB:mg "RULE_WORD"=some u1) (nC:RelV (tx fN) u1):aX P w K mg base dS 8 f fd ["kinds","rules","line"] (NJ K c):=by
 refine F.ok ir (fun vs H Q E h=>?_) (fun cP A outer s H vs Q E hr h=>?_)
 ·obtain⟨H0,lk,lr,ks,rs,kvs,oB,p,rfl,_⟩:=h
  rfl
 obtain⟨H0,lk,lr,ks,rs,kvs,oB,p,rfl,I,fk1,fr1,hz,hok,alt⟩:=h
 refine⟨_,(ag (az (i:=3) ir.nd rfl (abi rfl) (ao jy hr.q rfl (aa (pv 2) af)))
 (ak (aU (aE du (aq aw (pv 3) ae (fun _ _=>rfl)) (cb rfl nB nC) (aQ _))
 (ag (az (i:=4) ir.nd rfl (abi rfl) (ao nE hr.q rfl (aa (pv 3) af)))
 (ag (aU (aE ix (aq ax (pv 4) ae (fun _ _=>rfl)) (bW [] rfl (by kernel_rfl) (aN (pv 1)) (fun _ _ _ _ _=>bL) (fun _ _ _ _ _=>(qx (K:=K) rfl (pv 0) rfl))) (by with_unfolding_all rfl))
 bq
 aF)
 (ak (bp (cU aaN abm abp bz (pv 1) (aa (qr Im hr.q rfl (aa (aq ax (pv 4) ae (fun _ _=>rfl)) (aa (aq ax (pv 4) ae (fun _ _=>rfl)) af))) af))))))
 (ag (az (i:=5) ir.nd rfl (abi rfl) (ao nF hr.q rfl (aa (pv 3) af)))
 (ag (aU (aE ix (aq ax (pv 5) ae (fun _ _=>rfl)) (bW [] rfl (by kernel_rfl) (aN (pv 0)) (fun _ _ _ _ _=>bL) (fun _ _ _ _ _=>(aq (r:=gh K) ax (pv 0) ae (fun _ _=>rfl)))) (by with_unfolding_all rfl))
 bq
 aF)
 (ak (bp (cU aaN abm abp bz (pv 0) (aa (pv 5) af))))))))),?_⟩
 try dsimp only [jZ,GP]
 refine⟨_,rfl,p,rfl,hz,hok,fun v H1 s1 T1=>?_⟩
 obtain⟨l,rfl,Ox,hl⟩:=T1
 have a1:(toks p).length<=20000:=ab0 (EK p) hz
 rcases alt with⟨k,etk,kok,ac4,q⟩|⟨title,L,etk,R,Xy,ac5,q⟩
 ·rw [etk] at hl
  have a4:H1 l=some (.lst [tx (if k.l=true then bG else bF),tx k.n,tx [48+k.c]]):=hl
  refine⟨_,rfl,l,_,0,_,rfl,rfl,aC.of a4,rfl,rfl,_,rfl,?_⟩
  have e0:decide (tx (if k.l=true then bG else bF)=tx fN)=false:=by cases k.l <;> decide +kernel
  rw [e0]
  refine bw ⟨_,rfl,l,k,rfl,hl,kok.1,kok.2,fun v U s2 hK=>?_⟩
  have Q1:=ah.trans s1 s2
  obtain⟨t,rfl,ht⟩:=hK
  refine⟨_,rfl,t,_,0,_,rfl,rfl,ht,rfl,_,rfl,lk,rfl,⟨_,aC.of (Q1 _ _ I.hk)⟩,fun D hD=>?_⟩
  have zl:=aai I.pk
  refine cq (K:=K) (xs:=kvs) (ks.map (·.n)) (fun _ _ b y=>y=tx b) (fun _ _ _ _ _ _ h=>h) (fun _ _ _ _ _ _ h=>h) (jg (by have:=I.fk;omega)) hD (aC.of (Q1 _ _ I.hk)) (by rw [Lm9];exact zl) (fun i x b H' R B G sm hQ=>?_) (fun H3 ys sm Y po=>?_)
  ·obtain⟨hi,ex⟩:=aA B
   obtain⟨cH,O⟩:=aA G
   rw [Lm9] at cH
   rw [aaO] at O
   obtain⟨tk,XT,hk⟩:=paired_at I.pk i cH hi
   rw [ex] at XT
   subst XT
   refine⟨_,rfl,tk,_,0,_,rfl,rfl,hk.same (ah.trans Q1 sm),rfl,hQ _ _ (ah.refl _) ?_⟩
   rw [O]
  ·rw [dJ po] at Y
   refine⟨D,_,rfl,.inl (aC.of Y),rfl,dj _,_,rfl,?_⟩
   rw [d9,decide_eq_false ac4]
   refine bw ?_
   have sA:=ah.trans Q1 sm
   have J:=sA _ _ I.hk
   refine⟨_,rfl,.inl ⟨rfl,_,aC.of J⟩,_,rfl,lk,_,_,rfl,rfl,J,jg (by have:=I.fk;omega),?_⟩
   obtain⟨u0,a5⟩:=I.ok
   have kp:Kp H0 H3 (upd H3 lk (.lst (kvs++[V.ref t]))):=Kp.upd a5 J (by intro xs z;cases z) (by intro o u z;cases z)
   have Lg:Kp H0 H (upd H3 lk (.lst (kvs++[V.ref t]))):=(Kp.same sA).trans kp
   refine q (.ref t) _ (fun b o G e=>by rw [aD G];exact sA _ _ e) ⟨aj,?_,?_,L2.Paired.bA I.pr fun _ _ z=>z.keep Lg,I.ne,I.ok,I.or,fun b h=>I.yK b (Lg.yK b h),?_,I.fr⟩
   ·exact(L2.Paired.bA I.pk fun _ _ z=>z.keep Lg).snoc (Kind.keep kp ⟨t,rfl,ht.same sm⟩)
   ·rw [aD (aea I.ne)]
    exact sA _ _ I.hr
   ·rw [aab,ado]
    omega
 ·rw [etk] at hl a1
  refine⟨_,rfl,l,_,0,tx fN,rfl,rfl,aC.of hl,bE (j:=0) rfl,rfl,_,rfl,?_⟩
  rw [decide_eq_true rfl]
  refine dP ⟨_,rfl,l,title,L,rfl,hl,a1,R,fun t d kd U s2 ht a7 hd pa=>?_⟩
  have Q1:=ah.trans s1 s2
  refine⟨_,rfl,t,_,0,_,rfl,rfl,bH.of ht,rfl,_,rfl,lr,rfl,⟨_,aC.of (Q1 _ _ I.hr)⟩,fun D hD=>?_⟩
  have zl:=aai I.pr
  refine cq (K:=K) (xs:=oB) (rs.map (·.title)) (fun _ _ b y=>y=tx b) (fun _ _ _ _ _ _ h=>h) (fun _ _ _ _ _ _ h=>h) (jg (by have:=I.fr;omega)) hD (aC.of (Q1 _ _ I.hr)) (by rw [Lm9];exact zl) (fun i x b H' R B G sm hQ=>?_) (fun H3 ys sm Y po=>?_)
  ·obtain⟨hi,ex⟩:=aA B
   obtain⟨cH,O⟩:=aA G
   rw [Lm9] at cH
   rw [aaO] at O
   obtain⟨a,dx,fs,ea,na,ha,RF⟩:=paired_at I.pr i cH hi
   rw [ex] at ea
   subst ea
   refine⟨_,rfl,a,c.rule,dx,fs,_,rfl,(ah.trans Q1 sm) _ _ ha,T.cl,T.n1,RF.title,hQ _ _ (ah.refl _) ?_⟩
   rw [O]
  ·rw [dJ po] at Y
   refine⟨D,_,rfl,.inl (aC.of Y),rfl,dj _,_,rfl,?_⟩
   rw [d9,decide_eq_false ac5]
   refine bw ?_
   have sA:=ah.trans Q1 sm
   have Z:=sA _ _ I.hr
   have ZQ:=sm _ _ ht
   have ZO:=sm _ _ hd
   refine⟨_,rfl,.inl ⟨rfl,_,aC.of Z⟩,_,rfl,t,_,0,_,rfl,rfl,bH.of ZQ,rfl,_,rfl,t,_,1,_,rfl,rfl,bH.of ZQ,rfl,fun x dx B Xw Zi=>?_⟩
   have a3:H x=none:=sA.free B
   have a6:H0 x=none:=I.yK x a3
   have sM:ah H3 (upd (upd H3 dx (.own x)) x (.ins c.rule dx [])):=ah.trans (ai Xw _) (ah.ba (ah.refl _) (by rw [aD (aea Zi)];exact B) _)
   have pa3:dB K c (upd H0 x (.own x)) (upd (upd H3 dx (.own x)) x (.ins c.rule dx [])) L kd:=by
    refine L2.Paired.bA pa fun y kv z=>⟨z.1,?_⟩
    have z1:=dA.cM (H0:=H0) (fun b h=>I.yK b (s1.free h)) z.2
    exact dA.keep (Kp.same sM) (dA.apart B (dA.keep (Kp.same sm) z1))
   obtain⟨ur,a2⟩:=I.or
   have nlx:lr≠x:=aO Z B
   refine⟨upd H0 x (.own x),x,dx,d,title,L,kd,_,rfl,aj,aj,fun b h=>?_,sM _ _ ZO,pa3,fun y hy=>(sk R.inc y hy).2,R.ok,Xy,fun H4 fs h4 RF kp4=>⟨rfl,?_⟩⟩
   ·have nbx:b≠x:=fun z=>by rw [z,aj] at h;cases h
    rw [aD nbx]
    exact I.yK b (ah.free (ah.trans sA sM) h)
   have s4:ah H H4:=fun b o e=>kp4 b o ((ah.trans sA sM) b o e) (aO e a3)
   have Vx:=s4 _ _ I.hr
   refine⟨lr,_,_,rfl,rfl,Vx,jg (by have:=I.fr;omega),?_⟩
   have kp:Kp H0 H4 (upd H4 lr (.lst (oB++[V.ref x]))):=Kp.upd a2 Vx (by intro xs z;cases z) (by intro o u z;cases z)
   have kpX:Kp (upd H0 x (.own x)) H4 (upd H4 lr (.lst (oB++[V.ref x]))):=Kp.upd (by rw [aD nlx];exact a2) Vx (by intro xs z;cases z) (by intro o u z;cases z)
   have Lg:Kp H0 H (upd H4 lr (.lst (oB++[V.ref x]))):=(Kp.same s4).trans kp
   refine q (.ref x) _ (fun b o G e=>by rw [aD G];exact s4 _ _ e) ⟨?_,L2.Paired.bA I.pk fun _ _ z=>z.keep Lg,aj,?_,I.ne,I.ok,I.or,fun b h=>I.yK b (Lg.yK b h),I.fk,?_⟩
   ·rw [aD I.ne]
    exact s4 _ _ I.hk
   ·refine(L2.Paired.bA I.pr fun _ _ z=>z.keep Lg).snoc ⟨x,dx,fs,rfl,a6,by rw [aD (aea nlx)];exact h4,?_⟩
    refine qA.cM (fun b h=>?_) (RF.keep kpX)
    have nbx:b≠x:=fun z=>by rw [z,aj] at h;cases h
    rw [aD nbx] at h
    exact h
   ·rw [aab,ado]
    omega
end
section
variable {P:abn} {w:abU} {K:aaa} {mg:Str->Option aae} {base:Heap} {f:aay} {fd:abZ} {c:Cl}
theorem iT:aB ["kinds","facts","counts","fact"] ["kinds","facts"] (au jr):=⟨rfl,rfl,rfl,by decide +kernel,rfl,by decide +kernel,by decide +kernel⟩
theorem xr (F:dz K "check_facts" "check_facts" jr f fd) (xt:mg "dict"=none) (bf:mg "len"=none):aX P w K mg base dS 1 f fd ["kinds","facts"] (EV K):=by
 refine F.ok iT (fun vs H Q E h=>?_) (fun cP A outer s H vs Q E hr h=>?_)
 ·obtain⟨lk,lf,kvs,A3,ks,fs,rfl,_⟩:=h
  rfl
 obtain⟨lk,lf,kvs,A3,ks,fs,rfl,hk,pk,nd,fk,Y,pf,hfit,q⟩:=h
 have hu:=oG hr
 refine⟨_,(ag (az (i:=2) iT.nd rfl (abi rfl) (cy (uV rfl) rfl xt PyProof.Rows.Boot.«dict» (aa (bW [] rfl (by kernel_rfl) (aN (pv 0)) (fun _ _ _ _ _=>bL) (fun _ _ _ _ _=>(a8 (aa (aq (r:=gh K) ax (pv 0) ae (fun _ _=>rfl)) (aa (aq (r:=gh K) ax (pv 0) ae (fun _ _=>rfl)) af))))) af)))
 (ak (cB abB rfl (aN (pv 1)) (bj (i:=3) iT.nd rfl (abi rfl))
 (ag (aU (GB (sf hu (aq ax (pv 3) ae (fun _ _=>rfl)) (pv 2)))
 bq
 aF)
 (ak (aU (aE fE (aK aH rfl bf abq (aa (aq ax (pv 3) ae (fun _ _=>rfl)) af)) (Jk hu (pv 2) (aq ax (pv 3) ae (fun _ _=>rfl)) (fun _ _=>rfl)) (aQ _))
 bq
 aF)))))),?_⟩
 try dsimp only [jZ,GP]
 have zl:=aai pk
 have zf:=aai pf
 refine⟨_,rfl,lk,rfl,⟨_,aC.of hk⟩,fun D hD=>?_⟩
 refine cq (K:=K) (xs:=kvs) ks (fun _ H k y=>∃t,y=.ref t/\bH K H t [tx k.n,.int k.c]) (fun _ _ _ _ _ k ⟨t,e,h⟩=>⟨t,e,bH.keep k h⟩) (fun _ _ _ _ _ _ h=>h) (jg (by omega)) hD (aC.of hk) zl (fun i x b H' R hx hb sm hQ=>?_) (fun H1 ys s1 hL po=>?_)
 ·obtain⟨hi,ex⟩:=aA hx
  obtain⟨cH,eb⟩:=aA hb
  obtain⟨t,G,Z⟩:=paired_at pk i cH hi
  rw [ex] at G
  rw [eb] at Z
  subst G
  have J:=Z.same sm
  exact⟨_,rfl,t,_,0,_,rfl,rfl,J,rfl,_,rfl,t,_,1,_,rfl,rfl,J,rfl,(by show 2<=aaj;decide),fun V qJ=>hQ _ _ (ai qJ _) ⟨V,rfl,bH.of aj⟩⟩
 refine⟨D,ys,ks.map wA,rfl,hL,uj po,(by rw [Lm9];omega),fun d hd=>?_⟩
 rw [ku _ _ (um nd),aca]
 have s2:ah H (upd H1 d (.dK (ks.map wA))):=ah.trans s1 (ai hd _)
 have Mr:=aj (H:=H1) (a:=d) (o:=.dK (ks.map wA))
 generalize upd H1 d _=U at s2 Mr ⊢
 refine⟨_,rfl,lf,rfl,⟨_,aC.of (s2 _ _ Y)⟩,bR (K:=K) (a:=lf) (xs:=A3) (fun i σ H'=>H'=U/\∃o,σ=[some (.ref lk),some (.ref lf),some (.ref d),o]) ⟨rfl,none,rfl⟩ (fun i σ H' _ ⟨e,_⟩=>by rw [e];exact aC.of (s2 _ _ Y)) ?_ ?_⟩
 ·rintro i y σ H' hi ⟨rfl,o,rfl⟩
  obtain⟨Ij,ey⟩:=aA hi
  have JU:i<fs.length:=by omega
  obtain⟨t,V,G,h1,h2⟩:=paired_at pf i JU Ij
  rw [ey] at G
  subst G
  obtain⟨k,O,ekn,ekc⟩:=hfit fs[i] (aan JU)
  have Q2:bM (ks.map wA) (abx (S fs[i].k):Key)=some (.int k.c):=by
   rw [<- ekn]
   exact A4 (um nd) (aaw.mpr ⟨k,O,rfl⟩)
  have B:=h1.same s2
  have L:=h2.same s2
  refine⟨_,rfl,t,_,0,_,rfl,rfl,B,rfl,_,rfl,d,_,rfl,gj.k (k:=(abx (S fs[i].k):Key)) Mr,_,rfl,?_⟩
  rw [Q2]
  refine bw ?_
  refine⟨_,rfl,t,_,1,_,rfl,rfl,B,rfl,V,_,rfl,.inr L,_,rfl,_,rfl,t,_,0,_,rfl,rfl,B,rfl,d,_,rfl,(by have z:=gj.k (k:=(abx (S fs[i].k):Key)) Mr;rw [Q2] at z;exact z),rfl,_,rfl,?_⟩
  rw [Lm9,ekc,decide_eq_true rfl]
  exact bw ⟨rfl,_,rfl⟩
 ·rintro σ H' ⟨rfl,o,rfl⟩
  exact q _ s2
theorem nG:aB ["lasts","taken","fact"] ["lasts","taken"] (au js):=⟨rfl,rfl,rfl,by decide +kernel,rfl,by decide +kernel,by decide +kernel⟩
theorem xu (F:dz K "check_taken" "check_taken" js f fd):aX P w K mg base dS 1 f fd ["lasts","taken"] (EW K):=by
 refine F.ok nG (fun vs H Q E h=>?_) (fun cP A outer s H vs Q E hr h=>?_)
 ·obtain⟨ll,lf,A3,ls,fs,rfl,_⟩:=h
  rfl
 obtain⟨ll,lf,A3,ls,fs,rfl,hl,B,G,Ml,q⟩:=h
 refine⟨_,(ak (cB abB rfl (aN (pv 1)) (bj (i:=2) nG.nd rfl (abi rfl))
 (ak (aU (aE ix (aq ax (pv 2) ae (fun _ _=>rfl)) (pv 0) (by with_unfolding_all rfl))
 bq
 aF)))),?_⟩
 have O:=aai G
 refine⟨_,rfl,lf,rfl,⟨_,aC.of B⟩,bR (K:=K) (a:=lf) (xs:=A3) (fun i σ H'=>H'=H/\∃o,σ=[some (.ref ll),some (.ref lf),o]) ⟨rfl,none,rfl⟩ (fun i σ H' _ ⟨e,_⟩=>by rw [e];exact aC.of B) ?_ ?_⟩
 ·rintro i y σ H' hi ⟨rfl,o,rfl⟩
  obtain⟨Ij,J⟩:=aA hi
  have JU:i<fs.length:=by omega
  obtain⟨t,L,z,h1,h2⟩:=paired_at G i JU Ij
  rw [J] at z
  subst z
  refine⟨_,rfl,t,_,0,_,rfl,rfl,h1,rfl,_,rfl,ll,_,rfl,.inl (aC.of hl),rfl,dj _,_,rfl,?_⟩
  rw [d9,decide_eq_false (Ml _ (aan JU))]
  exact bw ⟨rfl,_,rfl⟩
 ·rintro σ H' ⟨rfl,o,rfl⟩
  exact q
theorem oN:aB ["lasts","rule","fact"] ["lasts","rule"] (au lA):=⟨rfl,rfl,rfl,by decide +kernel,rfl,by decide +kernel,by decide +kernel⟩
theorem zK (F:dz K "check_call" "check_call" lA f fd) (T:sr K c.rule) (iA:Met P w K mg base c.rule "calls" 1 ["self"] (vD K c)):aX P w K mg base dS 2 f fd ["lasts","rule"] (EX K c):=by
 refine F.ok oN (fun vs H Q E h=>?_) (fun cP A outer s H vs Q E hr h=>?_)
 ·obtain⟨H0,ll,v,ls,r,rfl,_⟩:=h
  rfl
 obtain⟨H0,ll,v,ls,r,rfl,hl,B,M0,q⟩:=h
 refine⟨_,(ag (aU (fK (bU (AS (pv 1) iA hr.q)))
 (ak PB)
 aF)
 (ak (cB abB rfl (aN (pe_fld (pv 1) rfl)) (bj (i:=2) oN.nd rfl (abi rfl))
 (ak (aU (aE cX (aq ax (pv 2) ae (fun _ _=>rfl)) (pv 0) (by with_unfolding_all rfl))
 bq
 aF))))),?_⟩
 try dsimp only [jZ,GP]
 obtain⟨a,dx,fs,rfl,na,ha,RF⟩:=id B
 refine⟨_,rfl,a,dx,fs,rfl,ha,RF.calls,H0,_,r,rfl,B,_,rfl,?_⟩
 by_cases e:r.take=[]
 ·rw [decide_eq_true e]
  refine bw ?_
  obtain⟨vg,J,lg,us,rfl,ng,G,pg⟩:=RF.given
  have V:=aai pg
  refine⟨_,rfl,a,c.rule,dx,fs,_,rfl,ha,T.cl,T.n5,J,lg,rfl,⟨_,aC.of G⟩,bR (K:=K) (a:=lg) (xs:=us) (fun i σ H'=>H'=H/\∃o,σ=[some (.ref ll),some (.ref a),o]) ⟨rfl,none,rfl⟩ (fun i σ H' _ ⟨e,_⟩=>by rw [e];exact aC.of G) ?_ ?_⟩
  ·rintro i y σ H' hi ⟨rfl,o,rfl⟩
   obtain⟨Ij,L⟩:=aA hi
   have JU:i<r.put.length:=by omega
   obtain⟨t,O,z,h1,h2⟩:=paired_at pg i JU Ij
   rw [L] at z
   subst z
   refine⟨_,rfl,t,_,0,_,rfl,rfl,h1,rfl,_,rfl,ll,_,rfl,.inl (aC.of hl),rfl,dj _,_,rfl,?_⟩
   rw [d9,decide_eq_true (M0 e _ (aan JU))]
   exact bw ⟨rfl,_,rfl⟩
  ·rintro σ H' ⟨rfl,o,rfl⟩
   exact q
 ·rw [decide_eq_false e]
  exact dP q
theorem eY:aB ["rule","said","look","fact","pair"] ["rule"] (au lB):=⟨rfl,rfl,rfl,by decide +kernel,rfl,by decide +kernel,by decide +kernel⟩
theorem zM (F:dz K "said_names" "said_names" lB f fd) (T:sr K c.rule) (Ts:yZ K c.same) (Tu:yZ K c.unlike):aX P w K mg base dS 1 f fd ["rule"] (NK K c):=by
 refine F.ok eY (fun vs H Q E h=>?_) (fun cP A outer s H vs Q E hr h=>?_)
 ·obtain⟨H0,v,r,rfl,_⟩:=h
  rfl
 obtain⟨H0,v,r,rfl,hR,hz,q⟩:=h
 refine⟨_,(ag (az (i:=1) eY.nd rfl (abi rfl) (bb af))
 (ag (cB abB rfl (aN (pe_fld (pv 0) rfl)) (bj (i:=2) eY.nd rfl (abi rfl))
 (ak (bp (cU aaN adA af3 Kr (pv 1) (aa (bb (aa (pe_fld (pv 2) rfl) (aa (pe_fld (pv 2) rfl) af))) af)))))
 (ag (cB abB rfl (aN (pe_fld (pv 0) rfl)) (bj (i:=3) eY.nd rfl (abi rfl))
 (ak (bp (cU aaN adA af3 vZ (pv 1) (aa (aq ax (pv 3) ae (fun _ _=>rfl)) af)))))
 (ag (cB abB rfl (aN (pe_fld (pv 0) rfl)) (bj (i:=4) eY.nd rfl (abi rfl))
 (ak (bp (cU aaN adA af3 vZ (pv 1) (aa (pv 4) af)))))
 (ak (aG (pv 1))))))),?_⟩
 try dsimp only [jZ,GP]
 obtain⟨a,dx,fs,rfl,na,ha,RF⟩:=id hR
 obtain⟨vl,el,ll,ul,rfl,nl,hl,pl⟩:=RF.aT
 obtain⟨vg,eg,lg,ug,rfl,ng,hg,pg⟩:=RF.given
 obtain⟨vt,et,lt,ut,rfl,nt,ht,pt⟩:=RF.told
 have J:=hz
 unfold dW at J
 rw [aab,aab] at J
 refine⟨(by show 0<=aaj;decide),fun ls Sy=>?_⟩
 have s0:=ai Sy (.lst [])
 have zl:=aai pl
 have zg:=aai pg
 have zt:=aai pt
 have xw:∀b,Em K (c.look b)/\cY K (c.look b) "left"/\cY K (c.look b) "right":=fun b=>by
  cases b with
  | true=>exact⟨Ts.cl,Ts.nL,Ts.nR⟩
  | false=>exact⟨Tu.cl,Tu.nL,Tu.nR⟩
 refine⟨_,rfl,a,c.rule,dx,fs,_,rfl,s0 _ _ ha,T.cl,T.n4,el,ll,rfl,⟨_,aC.of (s0 _ _ hl)⟩,bR (K:=K) (a:=ll) (xs:=ul) (fun i σ H'=>ah H H'/\H' ls=some (.lst (((r.aT.take i).flatMap fun k=>[k.l,k.r]).map tx))/\((r.aT.take i).flatMap fun k=>[k.l,k.r]).length<=(r.aT.flatMap fun k=>[k.l,k.r]).length/\∃z B G,σ=[some (.ref a),some (.ref ls),z,B,G])
  ⟨s0,aj,ab4 _,none,none,none,rfl⟩ (fun i σ H' _ ⟨sm,_⟩=>aC.of (sm _ _ hl)) ?_ ?_⟩
 ·rintro i y σ H' hi ⟨sm,hs,hlen,z,B,G,rfl⟩
  obtain⟨FJ,Z⟩:=aA hi
  have Ih:i<r.aT.length:=by omega
  obtain⟨b,Sz,fb,eb,nb,hb,f1,f2,f3,f4⟩:=paired_at pl i Ih FJ
  rw [Z] at eb
  subst eb
  obtain⟨C1,C2,C3⟩:=xw r.aT[i].same
  have a1:=sm _ _ hb
  refine⟨_,rfl,.inl ⟨rfl,_,aC.of hs⟩,_,rfl,b,_,Sz,fb,_,rfl,a1,C1,C2,f1,_,rfl,b,_,Sz,fb,_,rfl,a1,C1,C3,f2,(by show 2<=aaj;decide),fun l2 gW=>?_⟩
  have n2:ls≠l2:=aO hs gW
  have BU:upd H' l2 (.lst [tx r.aT[i].l,tx r.aT[i].r]) ls=some (.lst (((r.aT.take i).flatMap fun k=>[k.l,k.r]).map tx)):=by rw [aD n2];exact hs
  have UL:H l2=none:=sm.free gW
  have L:(r.aT.take (i+1)).flatMap (fun k=>[k.l,k.r])=(r.aT.take i).flatMap (fun k=>[k.l,k.r])++[r.aT[i].l,r.aT[i].r]:=by
   rw [aao Ih,acq]
   simp
  have V:=su (fun k:Lk=>[k.l,k.r]) r.aT (i+1)
  refine⟨ls,l2,_,_,rfl,rfl,BU,aj,(by rw [Lm9];exact sz (by simp only [aal,abN];omega)),ah.ba (ah.ba sm UL _) Sy _,?_,V,_,_,_,rfl⟩
  rw [aj,L,aau]
  rfl
 rintro σ H1 ⟨s1,O,-,z,B,G,rfl⟩
 have zul:ul.length=r.aT.length:=zl.symm
 rw [zul,abM] at O
 generalize hA:(r.aT.flatMap fun k=>[k.l,k.r])=LA at O J
 refine⟨_,rfl,a,c.rule,dx,fs,_,rfl,s1 _ _ ha,T.cl,T.n5,eg,lg,rfl,⟨_,aC.of (s1 _ _ hg)⟩,bR (K:=K) (a:=lg) (xs:=ug) (fun i σ H'=>ah H H'/\H' ls=some (.lst ((LA++((r.put.take i).flatMap (·.as))).map tx))/\∃z B G,σ=[some (.ref a),some (.ref ls),z,B,G])
  ⟨s1,by rw [agl,List.flatMap_nil,abI];exact O,_,_,_,rfl⟩ (fun i σ H' _ ⟨sm,_⟩=>aC.of (sm _ _ hg)) ?_ ?_⟩
 ·rintro i y σ H' hi ⟨sm,hs,z,B,G,rfl⟩
  obtain⟨FJ,Z⟩:=aA hi
  have Ih:i<r.put.length:=by omega
  obtain⟨t,t2,Y,h1,h2⟩:=paired_at pg i Ih FJ
  rw [Z] at Y
  subst Y
  have L:(r.put.take (i+1)).flatMap (·.as)=(r.put.take i).flatMap (·.as)++r.put[i].as:=by
   rw [aao Ih,acq]
   simp
  have V:=su (fun f:Fc=>f.as) r.put (i+1)
  rw [L,aab] at V
  refine⟨_,rfl,.inl ⟨rfl,_,aC.of hs⟩,_,rfl,t,_,1,_,rfl,rfl,h1.same sm,rfl,ls,t2,_,_,rfl,rfl,hs,h2.same sm,(by rw [Lm9,Lm9,aab];exact sz (by omega)),ah.ba sm Sy _,?_,_,_,_,rfl⟩
  rw [aj,L,<- abH,aau (l₁:=LA++_)]
 rintro σ U ⟨s2,BU,z,B,G,rfl⟩
 have zug:ug.length=r.put.length:=zg.symm
 rw [zug,abM] at BU
 generalize hB:r.put.flatMap (·.as)=LB at BU J
 refine⟨_,rfl,a,c.rule,dx,fs,_,rfl,s2 _ _ ha,T.cl,T.n6,et,lt,rfl,⟨_,aC.of (s2 _ _ ht)⟩,bR (K:=K) (a:=lt) (xs:=ut) (fun i σ H'=>ah H H'/\H' ls=some (.lst ((LA++(LB++((r.tell.take i).flatMap fun p=>[p.1,p.2]))).map tx))/\∃z B G,σ=[some (.ref a),some (.ref ls),z,B,G])
  ⟨s2,by rw [agl,List.flatMap_nil,abI];exact BU,_,_,_,rfl⟩ (fun i σ H' _ ⟨sm,_⟩=>aC.of (sm _ _ ht)) ?_ ?_⟩
 ·rintro i y σ H' hi ⟨sm,hs,z,B,G,rfl⟩
  obtain⟨FJ,Z⟩:=aA hi
  have Ih:i<r.tell.length:=by omega
  obtain⟨t,Y,h1⟩:=paired_at pt i Ih FJ
  rw [Z] at Y
  subst Y
  have L:(r.tell.take (i+1)).flatMap (fun p=>[p.1,p.2])=(r.tell.take i).flatMap (fun p=>[p.1,p.2])++[r.tell[i].1,r.tell[i].2]:=by
   rw [aao Ih,acq]
   simp
  have V:=su (fun p:Cs × Cs=>[p.1,p.2]) r.tell (i+1)
  rw [L,aab] at V
  refine⟨_,rfl,.inl ⟨rfl,_,aC.of hs⟩,_,rfl,ls,t,_,_,rfl,rfl,hs,h1.same sm,(by rw [Lm9,aab,aab];exact sz (by simp only [aal,abN] at V ⊢;omega)),ah.ba sm Sy _,?_,_,_,_,rfl⟩
  rw [aj,L,<- abH,<- abH,<- abH,aau (l₁:=LA++LB++_)]
  rfl
 rintro σ H3 ⟨s3,a2,z,B,G,rfl⟩
 have zut:ut.length=r.tell.length:=zt.symm
 rw [zut,abM] at a2
 refine⟨_,rfl,q _ _ s3 ⟨ls,rfl,Sy,?_⟩⟩
 unfold dW
 rw [hA,hB]
 exact a2
theorem nH:aB ["rule","name"] ["rule"] (au jv):=⟨rfl,rfl,rfl,by decide +kernel,rfl,by decide +kernel,by decide +kernel⟩
theorem xx (F:dz K "check_names" "check_names" jv f fd) (T:sr K c.rule) (lL:dn P w K mg base "said_names" 1 ["rule"] (NK K c)) (da:dn P w K mg base "is_great" 1 ["name"] vz):aX P w K mg base dS 2 f fd ["rule"] (EY K c):=by
 refine F.ok nH (fun vs H Q E h=>?_) (fun cP A outer s H vs Q E hr h=>?_)
 ·obtain⟨H0,v,r,rfl,_⟩:=h
  rfl
 obtain⟨H0,v,r,rfl,J,hz,qQ,B,q⟩:=h
 refine⟨_,(ak (cB abB rfl (aN (ao lL hr.q rfl (aa (pv 0) af))) (bj (i:=1) nH.nd rfl (abi rfl))
 (ak (aU (PW.pt (mr (bU (ao da hr.q rfl (aa (pv 1) af))) (je (aE cX (pv 1) (pe_fld (pv 0) rfl) (by with_unfolding_all rfl)))))
 bq
 aF)))),?_⟩
 try dsimp only [jZ,GP]
 refine⟨_,rfl,H0,v,r,rfl,J,hz,fun u H1 s1 T1=>?_⟩
 obtain⟨l,rfl,Ox,hl⟩:=T1
 obtain⟨a,dx,fs,rfl,na,ha,RF⟩:=id J
 obtain⟨vn,L,ln,rfl,nn,hn⟩:=RF.names
 refine⟨l,rfl,⟨_,aC.of hl⟩,bR (K:=K) (a:=l) (xs:=(dW r).map tx) (fun i σ H'=>H'=H1/\∃o,σ=[some (.ref a),o]) ⟨rfl,none,rfl⟩ (fun i σ H' _ ⟨e,_⟩=>by rw [e];exact aC.of hl) ?_ ?_⟩
 ·rintro i y σ H' hi ⟨rfl,o,rfl⟩
  obtain⟨FJ,G⟩:=aA hi
  rw [Lm9] at FJ
  rw [aaO] at G
  subst G
  have hmem:(dW r)[i]∈dW r:=aan FJ
  have hlen:=gk (qQ _ hmem)
  refine⟨_,rfl,(dW r)[i],rfl,(fun z=>by rw [z] at hlen;simp at hlen),by omega,_,rfl,?_⟩
  refine dQ (fun g=>?_) (fun g=>bw ⟨rfl,_,rfl⟩)
  refine⟨_,rfl,_,rfl,a,c.rule,dx,fs,_,rfl,s1 _ _ ha,T.cl,T.n7,L,ln,_,rfl,.inl (aC.of (s1 _ _ hn)),rfl,dj _,_,rfl,?_⟩
  rw [d9,decide_eq_true (B _ hmem g)]
  exact bw ⟨rfl,_,rfl⟩
 ·rintro σ H' ⟨rfl,o,rfl⟩
  exact q _ s1
end
section
variable {P:abn} {w:abU} {K:aaa} {mg:Str->Option aae} {base:Heap} {f:aay} {fd:abZ} {c:Cl}
theorem jz:aB ["kinds","rules","lasts","rule"] ["kinds","rules"] (au ly):=⟨rfl,rfl,rfl,by decide +kernel,rfl,by decide +kernel,by decide +kernel⟩
theorem zN (F:dz K "whole_book" "whole_book" ly f fd) (T:sr K c.rule) (jA:dn P w K mg base "check_facts" 1 ["kinds","facts"] (EV K)) (jB:dn P w K mg base "check_taken" 1 ["lasts","taken"] (EW K)) (lM:dn P w K mg base "check_call" 2 ["lasts","rule"] (EX K c))
  (jC:dn P w K mg base "check_names" 2 ["rule"] (EY K c)) (Io:P8 P w K mg base "Book" c.book 1 ["self","kinds","rules"] (vC K c)):aX P w K mg base dS 3 f fd ["kinds","rules"] (Jz K c):=by
 refine F.ok jz (fun vs H Q E h=>?_) (fun cP A outer s H vs Q E hr h=>?_)
 ·obtain⟨H0,lk,lr,ks,rs,kvs,oB,rfl,_⟩:=h
  rfl
 obtain⟨H0,lk,lr,ks,rs,kvs,oB,rfl,I,nd,good,q⟩:=h
 refine⟨_,(ag (eZ (i:=2) [] jz.nd rfl (abi rfl) rfl (by kernel_rfl) (aN (pv 0)) (fun _ _ _ _ _=>(gA (bU (aq (r:=gh K) ax (pv 0) ae (fun _ _=>rfl))))) (fun _ _ _ _ _=>(aq (r:=gh K) ax (pv 0) ae (fun _ _=>rfl))))
 (ag (cB abB rfl (aN (pv 1)) (bj (i:=3) jz.nd rfl (abi rfl))
 (ag (bp (ao jA hr.q rfl (aa (pv 0) (aa (aJ cZ (aJ cZ (pe_fld (pv 3) rfl) (pe_fld (pv 3) rfl)) (pe_fld (pv 3) rfl)) af))))
 (ag (bp (ao jB hr.q rfl (aa (pv 2) (aa (pe_fld (pv 3) rfl) af))))
 (ag (bp (ao lM hr.q rfl (aa (pv 2) (aa (pv 3) af))))
 (ak (bp (ao jC hr.q rfl (aa (pv 3) af))))))))
 (ak (aG (qr Io hr.q rfl (aa (pv 0) (aa (pv 1) af))))))),?_⟩
 try dsimp only [jZ,GP]
 have zk:=aai I.pk
 have zr:=aai I.pr
 refine⟨_,rfl,lk,rfl,⟨_,aC.of I.hk⟩,fun D hD=>?_⟩
 refine ef (K:=K) (xs:=kvs) ks (·.l) (·.n) (fun _ _ b y=>y=tx b) (fun _ _ _ _ _ _ h=>h) (fun _ _ _ _ _ _ h=>h) (jg (by have:=I.fk;omega)) hD (aC.of I.hk) zk (fun i x b H' R J Z sm Y=>?_) (fun i x b H' R J Z hk sm Y=>?_) (fun H1 ys s1 hL po=>?_)
 ·obtain⟨hi,ex⟩:=aA J
  obtain⟨cH,V⟩:=aA Z
  obtain⟨t,L,B⟩:=paired_at I.pk i cH hi
  rw [ex] at L
  rw [V] at B
  subst L
  exact⟨_,rfl,t,_,2,_,rfl,rfl,B.same sm,rfl,_,rfl,Y _ (ah.refl _)⟩
 ·obtain⟨hi,ex⟩:=aA J
  obtain⟨cH,V⟩:=aA Z
  obtain⟨t,L,B⟩:=paired_at I.pk i cH hi
  rw [ex] at L
  rw [V] at B
  subst L
  exact⟨_,rfl,t,_,0,_,rfl,rfl,B.same sm,rfl,Y _ _ (ah.refl _) rfl⟩
 rw [dJ po] at hL
 refine⟨_,rfl,lr,rfl,⟨_,aC.of (s1 _ _ I.hr)⟩,bR (K:=K) (a:=lr) (xs:=oB) (fun i σ H'=>ah H1 H'/\∃o,σ=[some (.ref lk),some (.ref lr),some (.ref D),o]) ⟨ah.refl _,none,rfl⟩ (fun i σ H' _ ⟨sm,_⟩=>aC.of (sm _ _ (s1 _ _ I.hr))) ?_ ?_⟩
 ·rintro i y σ H' hi ⟨sm,o,rfl⟩
  obtain⟨FJ,ey⟩:=aA hi
  have Vy:i<rs.length:=by omega
  have sA:=ah.trans s1 sm
  have G:=paired_at I.pr i Vy FJ
  rw [ey] at G
  have g:=good _ (aan Vy)
  generalize rs[i]=r at G g
  have hR:=G.keep (Kp.same sA)
  obtain⟨a,dx,fs,rfl,na,ha,RF⟩:=id hR
  obtain⟨vt,ev,lt,ut,rfl,nt,B,pt⟩:=RF.taken
  obtain⟨vk,ek,lp,uk,rfl,nk,hk,pk⟩:=RF.kept
  obtain⟨vg,eg,lg,ug,rfl,ng,hg,pg⟩:=RF.given
  have zt:=aai pt
  have zk2:=aai pk
  have zg:=aai pg
  have hfew:=g.abE
  rw [aab,aab] at hfew
  refine⟨_,rfl,_,rfl,a,c.rule,dx,fs,_,rfl,ha,T.cl,T.n2,ev,_,rfl,a,c.rule,dx,fs,_,rfl,ha,T.cl,T.n3,ek,lt,lp,_,_,rfl,rfl,B,hk,sz (by omega),fun p1 a1=>?_⟩
  have sp1:=ai a1 (.lst (ut++uk))
  refine⟨_,rfl,a,c.rule,dx,fs,_,rfl,sp1 _ _ ha,T.cl,T.n5,eg,p1,lg,_,_,rfl,rfl,aj,sp1 _ _ hg,sz (by rw [aab];omega),fun p2 yI=>?_⟩
  have XU:=ah.trans sp1 (ai yI (.lst ((ut++uk)++ug)))
  have sB:=ah.trans sA XU
  refine⟨lk,p2,kvs,_,ks,r.take++r.keep++r.put,rfl,sB _ _ I.hk,L2.Paired.bA I.pk fun _ _ z=>z.keep (H0:=H0) (Kp.same sB),nd,I.fk,aj,?_,g.fits,fun U s2=>?_⟩
  ·exact bx (bx (L2.Paired.bA pt fun _ _ z=>z.keep (H0:=H0) (Kp.same XU)) (L2.Paired.bA pk fun _ _ z=>z.keep (H0:=H0) (Kp.same XU))) (L2.Paired.bA pg fun _ _ z=>z.keep (H0:=H0) (Kp.same XU))
  have sC:=ah.trans XU s2
  have O:=hR.keep (Kp.same sC)
  have ud:=sC _ _ (sm _ _ hL)
  refine⟨_,rfl,_,rfl,a,c.rule,dx,fs,_,rfl,sC _ _ ha,T.cl,T.n2,ev,D,lt,_,_,r.take,rfl,ud,sC _ _ B,L2.Paired.bA pt fun _ _ z=>z.keep (H0:=H0) (Kp.same sC),g.takes,?_⟩
  refine⟨_,rfl,_,rfl,H0,D,_,_,r,rfl,ud,O,g.calls,?_⟩
  exact⟨_,rfl,H0,_,r,rfl,O,g.few,g.names,g.abD,fun H3 s3=>⟨ah.trans sm (ah.trans sC s3),_,rfl⟩⟩
 ·rintro σ H' ⟨sm,o,rfl⟩
  have sA:=ah.trans s1 sm
  refine⟨_,rfl,_,rfl,fun x dx J Xw Zi=>?_⟩
  refine⟨x,dx,_,_,rfl,aj,fun U fs h1 h2 h3 kp=>⟨rfl,q x dx fs U (fun b o e=>kp b o ?_ (aO (sA _ _ e) J)) (sA.free J) h1 h2 h3⟩⟩
  rw [aD (aO (sA _ _ e) J),aD (aO (sA _ _ e) Xw)]
  exact sA _ _ e
theorem iu:aB ["text","kinds","rules","line"] ["text"] (au m3):=⟨rfl,rfl,rfl,by decide +kernel,rfl,by decide +kernel,by decide +kernel⟩
theorem CZ (F:dz K "read_book" "read_book" m3 f fd) (lN:dn P w K mg base "told_lines" 2 ["text"] Js) (nI:dn P w K mg base "hear_line" 8 ["kinds","rules","line"] (NJ K c)) (lO:dn P w K mg base "whole_book" 3 ["kinds","rules"] (Jz K c)) :
  aX P w K mg base dS 9 f fd ["text"] (NM K c):=by
 refine F.ok iu (fun vs H Q E h=>?_) (fun cP A outer s H vs Q E hr h=>?_)
 ·obtain⟨ls,its,rfl,_⟩:=h
  rfl
 obtain⟨ls,its,rfl,h0,Z,G,B,q⟩:=h
 refine⟨_,(ag (az (i:=1) iu.nd rfl (abi rfl) (bb af))
 (ag (az (i:=2) iu.nd rfl (abi rfl) (bb af))
 (ag (cB abB rfl (aN (ao lN hr.q rfl (aa (pv 0) af))) (bj (i:=3) iu.nd rfl (abi rfl))
 (ak (bp (ao nI hr.q rfl (aa (pv 1) (aa (pv 2) (aa (pv 3) af)))))))
 (ak (aG (ao lO hr.q rfl (aa (pv 1) (aa (pv 2) af)))))))),?_⟩
 try dsimp only [jZ,GP]
 refine⟨(by show 0<=aaj;decide),fun lk Lh=>⟨(by show 0<=aaj;decide),fun lr sg=>?_⟩⟩
 have nkr:lk≠lr:=fun z=>by rw [<- z,aj] at sg;cases sg
 have XW:H lr=none:=(ai Lh _).free sg
 have J:ah H (upd (upd H lk (.lst [])) lr (.lst [])):=ah.trans (ai Lh _) (ai sg _)
 have XX:upd (upd H lk (.lst [])) lr (.lst []) lk=some (.lst []):=by rw [aD nkr];exact aj
 have Vz:upd (upd H lk (.lst [])) lr (.lst []) lr=some (.lst []):=aj
 generalize upd (upd H lk (.lst [])) lr (.lst [])=B0 at J XX Vz
 refine⟨_,rfl,ls,rfl,h0,Z,G,fun v H1 s1 T1=>?_⟩
 obtain⟨l,rfl,Ox,hl⟩:=T1
 rw [B.lines] at hl
 have nlk:l≠lk:=fun z=>by rw [z,XX] at Ox;cases Ox
 have nlr:l≠lr:=fun z=>by rw [z,Vz] at Ox;cases Ox
 refine⟨l,rfl,⟨_,aC.of hl⟩,bR (K:=K) (a:=l) (xs:=(its.map (·.1)).map tx) (fun i σ H'=>∃(kvs oB:List V) (o:Option V),σ=[some (tx (dh ls)),some (.ref lk),some (.ref lr),o]/\(∀b o,b≠lk->b≠lr->H1 b=some o->H' b=some o) /\
   pI K c B0 H' lk lr (jR ((its.take i).map (·.2))) (jS ((its.take i).map (·.2))) kvs oB)
  ⟨[],[],none,rfl,fun _ _ _ _ h=>h,⟨s1 _ _ XX,.nil,s1 _ _ Vz,.nil,nkr,⟨_,XX⟩,⟨_,Vz⟩,fun b h=>s1.free h,ab4 _,ab4 _⟩⟩ (fun i σ H' _ ⟨_,_,_,_,k1,_⟩=>aC.of (k1 _ _ nlk nlr hl)) ?_ ?_⟩
 ·rintro i y σ H' hi ⟨kvs,oB,o,rfl,k1,I⟩
  obtain⟨FJ,O⟩:=aA hi
  rw [Lm9,Lm9] at FJ
  rw [aaO,aaO] at O
  subst O
  have hm:=aan FJ
  have Zv:=B.ok _ hm
  have UE:=wB ((its.take i).map (·.2))
  have Sq:=wC ((its.take i).map (·.2))
  rw [Lm9,aat] at UE Sq
  have hfew:=B.few
  have XY:its[i].1.length<=20000:=by
   have z:its[i].1∈ls:=by
    have z2:its[i].1∈ls.filter told:=by rw [B.lines];exact aaw.mpr ⟨_,hm,rfl⟩
    exact(ab1.mp z2).1
   have:=sj ls _ z
   omega
  have ON:(its.take (i+1)).map (·.2)=(its.take i).map (·.2)++[its[i].2]:=by
   rw [aao FJ,aau]
   rfl
  have ade:its.map (·.2)=(its.take i).map (·.2)++([its[i].2]++(its.drop (i+1)).map (·.2)):=by
   rw [ago,<- abw (f:=(·.2)) (a:=its[i]) (l:=its.drop (i+1)),<- aau,<- aeJ FJ,aeq]
  refine⟨_,rfl,_,rfl,_,rfl,B0,lk,lr,_,_,kvs,oB,its[i].1,rfl,I,by omega,by omega,XY,Zv.1,?_⟩
  have XZ:=B.nk
  have X0:=B.nr
  rw [ade] at XZ X0
  rw [jT,jT] at XZ
  rw [jU,jU] at X0
  rcases Zv with⟨-,W0,ZR⟩
  generalize its[i].2=it at W0 ZR ON XZ X0
  cases it with
  | kind k =>
   refine .inl ⟨k,W0,ZR,?_,fun v U k2 I2=>⟨kvs++[v],oB,_,rfl,fun b o b1 b2 e=>k2 b o b1 (k1 b o b1 b2 e),?_⟩⟩
   ·intro M0
    rw [aau,aau,adC] at XZ
    exact XZ.2.2 k.n M0 k.n (aax _ (by simp [jR])) rfl
   ·rw [ON,jT,jU]
    show pI K c B0 U lk lr (_++[k]) (_++[]) _ _
    rw [abI]
    exact I2
  | rule t L =>
   refine .inr ⟨t,L,W0,ZR.1,ZR.2,?_,fun v U k2 I2=>⟨kvs,oB++[v],_,rfl,fun b o b1 b2 e=>k2 b o b2 (k1 b o b1 b2 e),?_⟩⟩
   ·intro M0
    rw [aau,aau,adC] at X0
    exact X0.2.2 t M0 t (aax _ (by simp [jS,uW])) rfl
   ·rw [ON,jT,jU]
    show pI K c B0 U lk lr (_++[]) (_++[uW t L]) _ _
    rw [abI]
    exact I2
 ·rintro σ H' ⟨kvs,oB,o,rfl,k1,I⟩
  rw [Lm9,Lm9,abM] at I
  refine⟨_,rfl,_,rfl,B0,lk,lr,_,_,kvs,oB,rfl,I,B.nk,B.good,fun x dx fs U s2 G h1 h2 Y=>?_⟩
  have sH:ah H U:=fun b o e=>s2 b o (k1 b o (aO e Lh) (aO e XW) (s1 _ _ (J _ _ e)))
  have X1:∀b,B0 b=none->H b=none:=fun b h=>J.free h
  refine q _ _ sH ⟨x,dx,fs,rfl,X1 x (I.yK x G),h1,⟨_,h2,lk,kvs,rfl,Lh,s2 _ _ I.hk,L2.Paired.bA I.pk fun _ _ z=>z.keep (H0:=H) (Kp.same s2)⟩,⟨_,Y,lr,oB,rfl,XW,s2 _ _ I.hr,L2.Paired.bA I.pr fun _ _ z=>hV.cM X1 (z.keep (Kp.same s2))⟩⟩
end
section
variable {P:abn} {w:abU} {K:aaa} {mg:Str->Option aae} {base:Heap} {f:aay} {fd:abZ} {c:Cl}
theorem Ip:aB ["stand","fact"] ["stand","fact"] (au tF):=⟨rfl,rfl,rfl,by decide +kernel,rfl,by decide +kernel,by decide +kernel⟩
theorem Iq (F:dz K "written" "written" tF f fd) (J:mg "tuple"=none):aX P w K mg base dS 1 f fd ["stand","fact"] (pN K):=by
 refine F.ok Ip (fun vs H Q E h=>?_) (fun cP A outer s H vs Q E hr h=>?_)
 ·obtain⟨d,v,st,g,rfl,_⟩:=h
  rfl
 obtain⟨d,v,st,g,rfl,hd,⟨t,t2,rfl,h1,h2⟩,hlen,q⟩:=h
 have hu:=oG hr
 refine⟨_,(ak (aG (a8 (aa (aq ax (pv 1) ae (fun _ _=>rfl)) (aa (cy gz rfl J PyProof.Rows.Boot.«tuple» (aa (bW [0] rfl (by kernel_rfl) (vN (aq ax (pv 1) ae (fun _ _=>rfl))) (fun _ _ _ _ _=>bL) (fun _ _ _ _ _=>(dG hu (pv 1) (pv 0) (pv 0) ⟨rfl,rfl,rfl,rfl⟩))) af)) af))))),?_⟩
 refine⟨_,rfl,t,_,0,_,rfl,rfl,h1,rfl,?_⟩
 refine⟨_,rfl,t,_,1,_,rfl,rfl,h1,rfl,?_⟩
 refine⟨t2,rfl,⟨_,h2⟩,fun D L=>?_⟩
 refine Fl (K:=K) (xs:=g.as.map tx) (gs:=(g.as.map (gM st)).map tx) (by simp) (jg (by rw [Lm9];omega)) L h2 (fun i x y H' R G B sm V=>?_) (fun H1 s1 O=>?_)
 ·obtain⟨hi,ex⟩:=aA G
  have Y:i<g.as.length:=by simpa using hi
  have ex:tx g.as[i]=x:=by rw [<- ex,aaO]
  subst ex
  obtain⟨hj,z⟩:=aA B
  have z:tx (gM st g.as[i])=y:=by rw [<- z,aaO,aaO]
  subst z
  have Mr:=sm _ _ hd
  refine⟨_,rfl,d,rfl,.inl ⟨_,.inl Mr⟩,_,rfl,_,rfl,_,gj.k (k:=(abx (S g.as[i]):Key)) Mr,?_⟩
  have e:(bM (st.map fJ) (abx (S g.as[i]):Key)).getD (tx g.as[i])=tx (gM st g.as[i]):=by
   rw [mL]
   unfold gM
   cases KQ st g.as[i] <;> rfl
  rw [e]
  exact V _ (ah.refl _)
 ·refine⟨D,_,rfl,.inl ⟨aC.of O,fun p Z=>?_⟩⟩
  refine⟨(by show 2<=aaj;decide),fun p2 yI=>?_⟩
  refine q _ _ (ah.trans s1 (ah.trans (ai Z _) (ai yI _))) ⟨p2,p,rfl,aj,?_⟩
  rw [aD (aO aj yI)]
  exact aj
end
section
variable {P:abn} {w:abU} {K:aaa} {mg:Str->Option aae} {base:Heap} {f:aay} {fd:abZ} {c:Cl}
theorem vJ (st:uw) (n:Cs):(bM (st.map fJ) (abx (S n):Key)).getD (tx n)=tx (gM st n):=by
 rw [mL]
 unfold gM
 cases KQ st n <;> rfl
theorem vc:aB ["stand","pair"] ["stand","pair"] (au iN):=⟨rfl,rfl,rfl,by decide +kernel,rfl,by decide +kernel,by decide +kernel⟩
theorem vd (F:dz K "pair_written" "pair_written" iN f fd):aX P w K mg base dS 1 f fd ["stand","pair"] (JO K):=by
 refine F.ok vc (fun vs H Q E h=>?_) (fun cP A outer s H vs Q E hr h=>?_)
 ·obtain⟨d,v,st,p,rfl,_⟩:=h
  rfl
 obtain⟨d,v,st,p,rfl,hd,⟨t,rfl,z⟩,q⟩:=h
 have B:=oG hr
 refine⟨_,(ak (aG (a8 (aa (dG B (pv 0) (aq ax (pv 1) ae (fun _ _=>rfl)) (aq ax (pv 1) ae (fun _ _=>rfl)) ⟨rfl,rfl,rfl,rfl⟩) (aa (dG B (pv 0) (aq ax (pv 1) ae (fun _ _=>rfl)) (aq ax (pv 1) ae (fun _ _=>rfl)) ⟨rfl,rfl,rfl,rfl⟩) af))))),?_⟩
 refine⟨_,rfl,d,rfl,.inl ⟨_,.inl hd⟩,_,rfl,t,_,0,_,rfl,rfl,z,rfl,_,rfl,t,_,0,_,rfl,rfl,z,rfl,_,gj.k (k:=(abx (S p.1):Key)) hd,?_⟩
 rw [vJ]
 refine⟨_,rfl,d,rfl,.inl ⟨_,.inl hd⟩,_,rfl,t,_,1,_,rfl,rfl,z,rfl,_,rfl,t,_,1,_,rfl,rfl,z,rfl,_,gj.k (k:=(abx (S p.2):Key)) hd,?_⟩
 rw [vJ]
 exact⟨(by show 2<=aaj;decide),fun l hl=>q l _ (ai hl _) aj⟩
theorem zO:aB ["self","one","other"] ["self","one","other"] (au kW):=⟨rfl,rfl,rfl,by decide +kernel,rfl,by decide +kernel,by decide +kernel⟩
theorem zP (F:dz K "holds" "Same.holds" kW f fd):aX P w K mg base dS 2 f fd ["self","one","other"] (jX true):=by
 refine F.ok zO (fun vs H Q E h=>?_) (fun cP A outer s H vs Q E hr h=>?_)
 ·obtain⟨p,x,y,rfl,_⟩:=h
  rfl
 obtain⟨p,x,y,rfl,_,_,q⟩:=h
 refine⟨_,(ak (aG (cS du (pv 1) (pv 2) (aQ _)))),?_⟩
 refine⟨_,rfl,_,rfl,rfl,?_⟩
 rw [mz]
 exact q
theorem ve:aB ["self","one","other"] ["self","one","other"] (au iO):=⟨rfl,rfl,rfl,by decide +kernel,rfl,by decide +kernel,by decide +kernel⟩
theorem vf (F:dz K "holds" "Unlike.holds" iO f fd) (da:dn P w K mg base "is_great" 1 ["name"] vz):aX P w K mg base dS 2 f fd ["self","one","other"] (jX false):=by
 refine F.ok ve (fun vs H Q E h=>?_) (fun cP A outer s H vs Q E hr h=>?_)
 ·obtain⟨p,x,y,rfl,_⟩:=h
  rfl
 obtain⟨p,x,y,rfl,J,L,q⟩:=h
 refine⟨_,(ak (aG (pC (vL (ao da hr.q rfl (aa (pv 1) af))) (pC (vL (ao da hr.q rfl (aa (pv 2) af))) (pB (cS fE (pv 1) (pv 2) (aQ _))))))),?_⟩
 have z:Q (.bl (!great x && (!great y && !decide (x=y)))) H:=q
 refine⟨_,rfl,x,rfl,J.1,J.2,_,rfl,_,rfl,?_⟩
 refine dQ (fun B=>?_) (fun B=>?_)
 ·rw [B,aeB] at z
  refine⟨_,rfl,y,rfl,L.1,L.2,_,rfl,_,rfl,?_⟩
  refine dQ (fun G=>?_) (fun G=>?_)
  ·rw [G,aeB] at z
   refine⟨_,rfl,_,rfl,rfl,?_⟩
   rw [mz]
   exact z
  ·have e:(!great y)=false:=by simpa using G
   rw [e,aeH] at z
   exact z
 ·have e:(!great x)=false:=by simpa using B
  rw [e,aeH] at z
  exact z
theorem zQ:aB ["rule","stand"] ["rule","stand"] (au kU):=⟨rfl,rfl,rfl,by decide +kernel,rfl,by decide +kernel,by decide +kernel⟩
theorem zR (F:dz K "looks_hold" "looks_hold" kU f fd) (T:sr K c.rule) (Ts:yZ K c.same) (Tu:yZ K c.unlike) (c_h:∀b,Met P w K mg base (c.look b) "holds" 2 ["self","one","other"] (jX b)) (Ow:mg "all"=none):aX P w K mg base dS 3 f fd ["rule","stand"] (ux K c):=by
 refine F.ok zQ (fun vs H Q E h=>?_) (fun cP A outer s H vs Q E hr h=>?_)
 ·obtain⟨H0,v,d,r,st,rfl,_⟩:=h
  rfl
 obtain⟨H0,v,d,r,st,rfl,hR,hd,hok,hfew,q⟩:=h
 have Y:=oG hr
 refine⟨_,(ak (aG (aK Ew rfl Ow ahC (aa (bW [1] rfl (by kernel_rfl) (aN (pe_fld (pv 0) rfl)) (fun _ _ _ _ _=>bL) (fun _ _ _ _ _=>(Oi (P:=P) (w:=w) (K:=K) (mg:=mg) (base:=base) rfl rfl rfl rfl rfl (pv 0) (k:=2) hr.q (aa (dG Y (pv 1) (qx (K:=K) rfl (pv 0) rfl) (qx (K:=K) rfl (pv 0) rfl) ⟨rfl,rfl,rfl,rfl⟩) (aa (dG Y (pv 1) (qx (K:=K) rfl (pv 0) rfl) (qx (K:=K) rfl (pv 0) rfl) ⟨rfl,rfl,rfl,rfl⟩) af))))) af)))),?_⟩
 try dsimp only [jZ,GP]
 obtain⟨a,dx,fs,rfl,na,ha,RF⟩:=id hR
 obtain⟨vl,Z,ll,ul,rfl,nl,hl,pl⟩:=RF.aT
 have zl:=aai pl
 have xw:∀b,Em K (c.look b)/\cY K (c.look b) "left"/\cY K (c.look b) "right":=fun b=>by
  cases b with
  | true=>exact⟨Ts.cl,Ts.nL,Ts.nR⟩
  | false=>exact⟨Tu.cl,Tu.nL,Tu.nR⟩
 refine⟨_,rfl,a,c.rule,dx,fs,_,rfl,ha,T.cl,T.n4,Z,ll,rfl,⟨_,aC.of hl⟩,fun D hD=>?_⟩
 refine cq (K:=K) (xs:=ul) (r.aT.map (ji st)) (fun _ _ b y=>y=.bl b) (fun _ _ _ _ _ _ h=>h) (fun _ _ _ _ _ _ h=>h) (jg (by omega)) hD (aC.of hl) (by rw [Lm9];exact zl) (fun i y b H' R hy hb sm hQ=>?_) (fun H1 ys s1 V po=>?_)
 ·obtain⟨hi,ey⟩:=aA hy
  obtain⟨cH,G⟩:=aA hb
  rw [Lm9] at cH
  rw [aaO] at G
  obtain⟨B,Sz,fb,O,nb,L,f1,J,f3,f4⟩:=paired_at pl i cH hi
  rw [ey] at O
  subst O
  have qQ:=hok _ (aan cH)
  obtain⟨C1,C2,C3⟩:=xw r.aT[i].same
  have Sb:=sm _ _ L
  have z:=sm _ _ hd
  generalize r.aT[i]=kk at Sb C1 C2 C3 f1 J G qQ
  refine⟨_,rfl,B,_,Sz,fb,_,_,rfl,Sb,f3,c_h _,?_⟩
  refine⟨_,rfl,d,rfl,.inl ⟨_,.inl z⟩,_,rfl,B,_,Sz,fb,_,rfl,Sb,C1,C2,f1,_,rfl,B,_,Sz,fb,_,rfl,Sb,C1,C2,f1,_,gj.k (k:=(abx (S kk.l):Key)) z,?_⟩
  rw [vJ]
  refine⟨_,rfl,d,rfl,.inl ⟨_,.inl z⟩,_,rfl,B,_,Sz,fb,_,rfl,Sb,C1,C3,J,_,rfl,B,_,Sz,fb,_,rfl,Sb,C1,C3,J,_,gj.k (k:=(abx (S kk.r):Key)) z,?_⟩
  rw [vJ]
  exact⟨_,_,_,rfl,qQ.1,qQ.2,hQ _ _ (ah.refl _) (by rw [<- G];rfl)⟩
 rw [ow po] at V
 refine⟨D,_,rfl,rfl,aC.of V,?_⟩
 have e:(r.aT.map (ji st)).all id=r.aT.all (ji st):=by rw [ahw];rfl
 rw [e]
 exact q _ s1
theorem fX:aB ["kinds","rule","stand","pool","lasts","heads","head"] ["kinds","rule","stand","pool"] (au jt):=⟨rfl,rfl,rfl,by decide +kernel,rfl,by decide +kernel,by decide +kernel⟩
theorem xy (F:dz K "heads_there" "heads_there" jt f fd) (T:sr K c.rule) (iB:dn P w K mg base "written" 1 ["stand","fact"] (pN K)):aX P w K mg base dS 2 f fd ["kinds","rule","stand","pool"] (qO K c):=by
 refine F.ok fX (fun vs H Q E h=>?_) (fun cP A outer s H vs Q E hr h=>?_)
 ·obtain⟨H0,lk,v,d,pq,ks,r,st,dM,cf,b,rfl,_⟩:=h
  rfl
 obtain⟨H0,lk,v,d,pq,ks,r,st,dM,cf,b,rfl,⟨kvs,hk,pk⟩,hR,hd,hP,fk,ft,fp,fa,q⟩:=h
 refine⟨_,(ag (eZ (i:=4) [] fX.nd rfl (abi rfl) rfl (by kernel_rfl) (aN (pv 0)) (fun _ _ _ _ _=>(gA (bU (aq (r:=gh K) ax (pv 0) ae (fun _ _=>rfl))))) (fun _ _ _ _ _=>(aq (r:=gh K) ax (pv 0) ae (fun _ _=>rfl))))
 (ag (eZ (i:=5) [2] fX.nd rfl (abi rfl) rfl (by kernel_rfl) (aN (aJ cZ (pe_fld (pv 1) rfl) (pe_fld (pv 1) rfl))) (fun _ _ _ _ _=>bL) (fun _ _ _ _ _=>(ao iB hr.q rfl (aa (pv 1) (aa (pv 0) af)))))
 (ag (cB abB rfl (aN (pv 5)) (bj (i:=6) fX.nd rfl (abi rfl))
 (ak (aU (aE ix (aq ax (pv 6) ae (fun _ _=>rfl)) (pv 4) (by with_unfolding_all rfl))
 (ak (aU (aE (kJ hr.units) (pv 6) (aq ax (pv 3) ae (fun _ _=>rfl)) (by with_unfolding_all rfl))
 (ak (aG fB))
 aF))
 (ak (aU (aE qg (Oj af2 ag7 (wW hr.units) (aq ax (pv 3) ae (fun _ _=>rfl)) (aa (pv 6) af)) (cU aaN agc ahg (Bo hr.units) (pv 5) (aa (pv 6) af)) (aQ _))
 (ak (aG fB))
 aF)))))
 (ak (aG fB))))),?_⟩
 try dsimp only [jZ,GP]
 have zk:=aai pk
 refine⟨_,rfl,lk,rfl,⟨_,aC.of hk⟩,fun D hD=>?_⟩
 refine ef (K:=K) (xs:=kvs) ks (·.l) (·.n) (fun _ _ b y=>y=tx b) (fun _ _ _ _ _ _ h=>h) (fun _ _ _ _ _ _ h=>h) (jg (by omega)) hD (aC.of hk) zk (fun i x b H' R hx G sm Y=>?_) (fun i x b H' R hx G hk sm Y=>?_) (fun H1 ys s1 hL po=>?_)
 ·obtain⟨hi,ex⟩:=aA hx
  obtain⟨cH,B⟩:=aA G
  obtain⟨t,J,O⟩:=paired_at pk i cH hi
  rw [ex] at J
  rw [B] at O
  subst J
  exact⟨_,rfl,t,_,2,_,rfl,rfl,O.same sm,rfl,_,rfl,Y _ (ah.refl _)⟩
 ·obtain⟨hi,ex⟩:=aA hx
  obtain⟨cH,B⟩:=aA G
  obtain⟨t,J,O⟩:=paired_at pk i cH hi
  rw [ex] at J
  rw [B] at O
  subst J
  exact⟨_,rfl,t,_,0,_,rfl,rfl,O.same sm,rfl,Y _ _ (ah.refl _) rfl⟩
 rw [dJ po] at hL
 have hL:H1 D=some (.lst ((mJ ks).map tx)):=hL
 have a1:=hR.keep (Kp.same s1)
 obtain⟨a,dx,fs,rfl,na,ha,RF⟩:=id a1
 obtain⟨va,ea,la,ua,rfl,nta,a3,pta⟩:=RF.taken
 obtain⟨vb,B,lb,ub,rfl,nkb,a2,pkb⟩:=RF.kept
 have za:=aai pta
 have zb:=aai pkb
 refine⟨_,rfl,a,c.rule,dx,fs,_,rfl,ha,T.cl,T.n2,ea,_,rfl,a,c.rule,dx,fs,_,rfl,ha,T.cl,T.n3,B,la,lb,_,_,rfl,rfl,a3,a2,(by rw [aaz];omega),fun l2 gW=>?_⟩
 have Z:=ai gW (.lst (ua++ub))
 have h2:=aW Z
 generalize upd H1 l2 _=U at Z h2 ⊢
 have pf:Paired (Fact K U) (r.take++r.keep) (ua++ub):=L2.Paired.bA (bx pta pkb) fun _ _ z=>z.keep (Kp.same (H0:=H1) Z)
 have zf:=aai pf
 refine⟨l2,rfl,⟨_,aC.of h2⟩,fun D2 ud=>?_⟩
 have sA:=ah.trans s1 Z
 refine cq (K:=K) (xs:=ua++ub) (ay st r) (fun _ H' g y=>Fact K H' g y) (fun _ _ _ _ _ k h=>h.keep k) (fun _ _ _ _ _ _ h=>h) (jg (by rw [aab];omega)) ud (aC.of h2) (by rw [<- zf,ay,Lm9]) (fun i y b H' R hy G sm Y=>?_) (fun H3 SA s3 oM Q3=>?_)
 ·obtain⟨hi,ey⟩:=aA hy
  obtain⟨cH,B⟩:=aA G
  have FO:i<(r.take++r.keep).length:=by rw [ay,Lm9] at cH;exact cH
  have B:wr st (r.take++r.keep)[i]=b:=by rw [<- B];exact(aaO (l:=r.take++r.keep) (wr st)).symm
  have V:=paired_at pf i FO hi
  rw [ey] at V
  exact⟨_,rfl,_,rfl,d,y,st,_,rfl,sm _ _ (sA _ _ hd),V.keep (Kp.same (H0:=H') sm),fa _ (aan FO),fun v' jc vR hv=>Y _ _ vR (by rw [<- B];exact hv.fact)⟩
 have SD:=hP.sm (ah.trans sA s3)
 obtain⟨p,t0,t1,z2,y0,y1,rfl,hp,ZS,pb,SE,pl,Eb⟩:=SD
 have VA:H3 D=some (.lst ((mJ ks).map tx)):=s3 _ _ (Z _ _ hL)
 have z3:=aai Q3
 have tsH:Ts K H3 ((ay st r).map fT) SA:=dX Q3
 have vh:∀l:List Fc,∀t∈l.map fT,(∃q,t=.tup q)/\t.toD.deep<=8:=fun l t O=>by
  obtain⟨g,_,rfl⟩:=aaw.mp O
  exact⟨⟨_,rfl⟩,ip g⟩
 refine⟨_,rfl,D2,rfl,⟨_,aC.of oM⟩,bR (K:=K) (a:=D2) (xs:=SA) (fun i σ H'=>H'=H3/\((ay st r).take i).all (gR ks dM cf (ay st r))=true/\∃o,σ=[some (.ref lk),some (.ref a),some (.ref d),some (.ref p),some (.ref D),some (.ref D2),o]) ⟨rfl,by simp,none,rfl⟩ (fun i σ H' _ ⟨e,_⟩=>by rw [e];exact aC.of oM) ?_ ?_⟩
 ·rintro i y σ H' hi ⟨rfl,Ed,o,rfl⟩
  obtain⟨Tw,ey⟩:=aA hi
  have cH:i<(ay st r).length:=by omega
  have V:=paired_at Q3 i cH Tw
  rw [ey] at V
  have L:=Fact.Se V
  obtain⟨t,tt,J,h1,a4⟩:=id V
  subst J
  have Ms:((ay st r).take (i+1)).all (gR ks dM cf (ay st r))=gR ks dM cf (ay st r) (ay st r)[i]:=by
   rw [aao cH,abJ,Ed]
   simp
  have qF:gR ks dM cf (ay st r) (ay st r)[i]=false->Q (.bl false) H':=fun e=>by
   have z:jq ks st r dM cf=false:=by
    unfold jq
    rw [ag8]
    exact⟨_,aan cH,by rw [e];decide⟩
   have:=q H' (ah.trans sA s3)
   rw [z] at this
   exact this
  refine⟨_,rfl,t,_,0,_,rfl,rfl,h1,rfl,_,rfl,D,_,rfl,.inl (aC.of VA),rfl,dj _,_,rfl,?_⟩
  rw [d9]
  by_cases hm:(ay st r)[i].k∈mJ ks
  ·rw [decide_eq_true hm]
   have eB:gR ks dM cf (ay st r) (ay st r)[i]=decide ((ay st r)[i]∈cf):=by unfold gR;rw [if_pos hm]
   refine dP ⟨_,rfl,_,rfl,p,_,1,_,rfl,rfl,hp,rfl,t1,y1,cf.map fT,_,rfl,SE,dX pl,L,ip _,vh cf,_,rfl,?_⟩
   rw [show(cf.map fT).any (fun a=>eqT a (Tr.tup [.str (S (ay st r)[i].k),.tup (((ay st r)[i].as.map S).map .str)]))=decide ((ay st r)[i]∈cf) from wL cf (ay st r)[i]]
   cases G:decide ((ay st r)[i]∈cf) with
   | true=>exact bw ⟨rfl,by rw [Ms,eB,G],_,rfl⟩
   | false=>exact dP (qF (by rw [eB,G]))
  ·rw [decide_eq_false hm]
   have eB:gR ks dM cf (ay st r) (ay st r)[i]=decide ((ay st r).countP (fun a=>decide (a=(ay st r)[i]))<=dM.countP (fun a=>decide (a=(ay st r)[i]))):=by unfold gR;rw [if_neg hm]
   refine bw ⟨_,rfl,p,_,0,_,rfl,rfl,hp,rfl,⟨t0,rfl,Eb⟩,_,rfl,t0,y0,dM.map fT,_,_,rfl,rfl,ZS,dX pb,L,vh dM,_,rfl,.inl ⟨rfl,_,aC.of oM⟩,_,rfl,D2,SA,(ay st r).map fT,_,_,rfl,rfl,aC.of oM,tsH,L,vh _,_,_,rfl,rfl,_,rfl,?_⟩
   rw [show(dM.map fT).countP (fun a=>eqT a (Tr.tup [.str (S (ay st r)[i].k),.tup (((ay st r)[i].as.map S).map .str)]))=_ from wY dM (ay st r)[i],show((ay st r).map fT).countP (fun a=>eqT a (Tr.tup [.str (S (ay st r)[i].k),.tup (((ay st r)[i].as.map S).map .str)]))=_ from wY (ay st r) (ay st r)[i]]
   refine dQ (fun c=>?_) (fun c=>?_)
   ·have c':=of_decide_eq_true c
    exact qF (by rw [eB];exact decide_eq_false (by omega))
   ·have c':(ay st r).countP (fun a=>decide (a=(ay st r)[i]))<=dM.countP (fun a=>decide (a=(ay st r)[i])):=by simpa using c
    exact⟨rfl,by rw [Ms,eB];exact decide_eq_true c',_,rfl⟩
 ·rintro σ H' ⟨rfl,Ed,o,rfl⟩
  rw [<- z3,abM] at Ed
  have:=q H' (ah.trans sA s3)
  unfold jq at this
  rw [Ed] at this
  exact this
theorem xI:aB ["rule","stand","lasting","pairs"] ["rule","stand","lasting"] (au tG):=⟨rfl,rfl,rfl,by decide +kernel,rfl,by decide +kernel,by decide +kernel⟩
theorem Ir (F:dz K "changes" "changes" tG f fd) (T:sr K c.rule) (iB:dn P w K mg base "written" 1 ["stand","fact"] (pN K)) (iU:dn P w K mg base "pair_written" 1 ["stand","pair"] (JO K)) (SF:mg "any"=none):aX P w K mg base dS 2 f fd ["rule","stand","lasting"] (uy K c):=by
 refine F.ok xI (fun vs H Q E h=>?_) (fun cP A outer s H vs Q E hr h=>?_)
 ·obtain⟨H0,v,d,t1,r,st,cf,y1,rfl,_⟩:=h
  rfl
 obtain⟨H0,v,d,t1,r,st,cf,y1,rfl,hR,hd,SE,pl,fp,ft,fa,q⟩:=h
 refine⟨_,(ag (aU (bU (aK Fs rfl SF ahD (aa (bW [1,2] rfl (by kernel_rfl) (aN (pe_fld (pv 0) rfl)) (fun _ _ _ _ _=>bL) (fun _ _ _ _ _=>(cS (r:=wV K) (kJ hr.units) (ao iB hr.q rfl (aa (pv 1) (aa (pv 0) af))) (pv 2) (by with_unfolding_all rfl)))) af)))
 (ak (aG fB))
 aF)
 (ag (eZ (i:=3) [1] xI.nd rfl (abi rfl) rfl (by kernel_rfl) (aN (pe_fld (pv 0) rfl)) (fun _ _ _ _ _=>bL) (fun _ _ _ _ _=>(ao iU hr.q rfl (aa (pv 1) (aa (pv 0) af)))))
 (ak (aG (aK Fs rfl SF ahD (aa (bW [] rfl (by kernel_rfl) (aN (pv 3)) (fun _ _ _ _ _=>bL) (fun _ _ _ _ _=>(cS fE (aq (r:=gh K) ax (pv 0) ae (fun _ _=>rfl)) (aq (r:=gh K) ax (pv 0) ae (fun _ _=>rfl)) (aQ _)))) af)))))),?_⟩
 try dsimp only [jZ,GP]
 obtain⟨a,dx,fs,rfl,na,ha,RF⟩:=id hR
 obtain⟨vg,eg,lg,ug,rfl,ng,hg,pg⟩:=RF.given
 obtain⟨vt,et,lt,ut,rfl,nt,Y,pt⟩:=RF.told
 have zg:=aai pg
 have zt:=aai pt
 have vh:∀l:List Fc,∀t∈l.map fT,(∃q,t=.tup q)/\t.toD.deep<=8:=fun l t Y=>by
  obtain⟨g,_,rfl⟩:=aaw.mp Y
  exact⟨⟨_,rfl⟩,ip g⟩
 refine⟨_,rfl,a,c.rule,dx,fs,_,rfl,ha,T.cl,T.n5,eg,lg,rfl,⟨_,aC.of hg⟩,fun D hD=>?_⟩
 refine cq (K:=K) (xs:=ug) (r.put.map fun f=>!decide (wr st f∈cf)) (fun _ _ b y=>y=.bl b) (fun _ _ _ _ _ _ h=>h) (fun _ _ _ _ _ _ h=>h) (jg (by omega)) hD (aC.of hg) (by rw [Lm9];exact zg) (fun i y b H' R V B sm O=>?_) (fun H1 ys s1 hL po=>?_)
 ·obtain⟨hi,J⟩:=aA V
  obtain⟨cH,G⟩:=aA B
  rw [Lm9] at cH
  rw [aaO] at G
  have L:=paired_at pg i cH hi
  rw [J] at L
  refine⟨_,rfl,_,rfl,d,y,st,_,rfl,sm _ _ hd,L.keep (Kp.same (H0:=H') sm),fa _ (aan cH),fun v' U s2 hv=>?_⟩
  have Z:=Fact.Se (K:=K) hv.fact
  have sB:=ah.trans sm s2
  refine⟨_,rfl,t1,y1,cf.map fT,_,rfl,SE.same sB,dX (L2.Paired.bA pl fun _ _ z=>z.keep (Kp.same (H0:=H) sB)),Z,ip _,vh cf,?_⟩
  rw [show(cf.map fT).any (fun a=>eqT a (Tr.tup [.str (S (wr st r.put[i]).k),.tup (((wr st r.put[i]).as.map S).map .str)]))=decide (wr st r.put[i]∈cf) from wL cf (wr st r.put[i])]
  exact O _ _ s2 (by rw [<- G])
 rw [ow po] at hL
 refine⟨D,_,rfl,rfl,aC.of hL,_,rfl,?_⟩
 have e:(r.put.map fun f=>!decide (wr st f∈cf)).any id=r.put.any fun f=>!decide (wr st f∈cf):=by rw [agQ];rfl
 rw [e]
 cases B:r.put.any fun f=>!decide (wr st f∈cf) with
 | true =>
  refine dP ?_
  have:=q H1 s1
  unfold dH at this
  rw [B] at this
  exact this
 | false =>
  refine bw ?_
  have zj:=s1 _ _ Y
  refine⟨_,rfl,a,c.rule,dx,fs,_,rfl,s1 _ _ ha,T.cl,T.n6,et,lt,rfl,⟨_,aC.of zj⟩,fun D2 ud=>?_⟩
  refine cq (K:=K) (xs:=ut) r.tell (fun _ H' p y=>∃t,y=.ref t/\bH K H' t [tx (gM st p.1),tx (gM st p.2)]) (fun _ _ _ _ _ k ⟨t,e,h⟩=>⟨t,e,bH.keep k h⟩) (fun _ _ _ _ _ _ h=>h) (jg (by omega)) ud (aC.of zj) zt (fun i y b H' R V B sm O=>?_) (fun U Zt s2 mf ZT=>?_)
  ·obtain⟨hi,J⟩:=aA V
   obtain⟨cH,G⟩:=aA B
   have L:=paired_at pt i cH hi
   rw [J,G] at L
   have sB:=ah.trans s1 sm
   exact⟨_,rfl,_,rfl,d,y,st,b,rfl,sB _ _ hd,L.keep (Kp.same (H0:=H) sB),fun t U s2 h2=>O _ _ s2 ⟨t,rfl,.inl (.inl h2)⟩⟩
  have z2:=aai ZT
  refine⟨_,rfl,D2,rfl,⟨_,aC.of mf⟩,fun D3 Q4=>?_⟩
  refine cq (K:=K) (xs:=Zt) (r.tell.map fun p=>!decide (gM st p.1=gM st p.2)) (fun _ _ b y=>y=.bl b) (fun _ _ _ _ _ _ h=>h) (fun _ _ _ _ _ _ h=>h) (jg (by omega)) Q4 (aC.of mf) (by rw [Lm9];exact z2) (fun i y b H' R V B sm O=>?_) (fun H3 SA s3 oM Q3=>?_)
  ·obtain⟨hi,J⟩:=aA V
   obtain⟨cH,G⟩:=aA B
   rw [Lm9] at cH
   rw [aaO] at G
   obtain⟨t,e',h'⟩:=paired_at ZT i cH hi
   rw [J] at e'
   subst e'
   have h':=h'.same sm
   refine⟨_,rfl,t,_,0,_,rfl,rfl,h',rfl,_,rfl,t,_,1,_,rfl,rfl,h',rfl,rfl,?_⟩
   rw [mz]
   exact O _ _ (ah.refl _) (by rw [<- G])
  rw [ow Q3] at oM
  refine⟨D3,_,rfl,rfl,aC.of oM,?_⟩
  have e:(r.tell.map fun p=>!decide (gM st p.1=gM st p.2)).any id=r.tell.any fun p=>!decide (gM st p.1=gM st p.2):=by rw [agQ];rfl
  rw [e]
  have:=q H3 (ah.trans s1 (ah.trans s2 s3))
  unfold dH at this
  rw [B,ahb] at this
  exact this
end
section
variable {P:abn} {w:abU} {K:aaa} {mg:Str->Option aae} {base:Heap} {f:aay} {fd:abZ} {c:Cl} {C1:aay}
theorem zS:aB ["book","step"] ["book","step"] (au kO):=⟨rfl,rfl,rfl,by decide +kernel,rfl,by decide +kernel,by decide +kernel⟩
theorem zT (F:dz K "check_step" "check_step" kO f fd) (T:sr K c.rule) (B:Qn K c.book) (qV:agt K C1 bmV TF=true) (qW:mg "NoStep"=some (.ref C1)) (bf:mg "len"=none):aX P w K mg base (Gy P w) 1 f fd ["book","step"] (uz K c C1):=by
 refine F.okE zS (fun vs H Q E h=>?_) (fun cP A outer s H vs Q E hr h=>?_)
 ·obtain⟨H0,bv,sv,ks,rs,n,ns,rfl,_⟩:=h
  rfl
 obtain⟨H0,bv,sv,ks,rs,n,ns,rfl,hB,hS,hW,hn,hE,q⟩:=h
 refine⟨_,(ag (aU (PW.pt (oF (aE qg (aq ax (pv 1) ae (fun _ _=>rfl)) ae (aQ _)) (mq (aE Wb (aq ax (pv 1) ae (fun _ _=>rfl)) (aK aH rfl bf abq (aa (pe_fld (pv 0) rfl) af)) (aQ _)))))
 (ak (EA qV qW rfl (aa (JG hr.gd hr.units (pv 1)) af)))
 aF)
 (ak (aU (aE fE (aK aH rfl bf abq (aa (aq ax (pv 1) ae (fun _ _=>rfl)) af)) (aK aH rfl bf abq (aa (pe_fld (aq aw (pe_fld (pv 0) rfl) (aq ax (pv 1) ae (fun _ _=>rfl)) (fun _ _=>rfl)) rfl) af)) (aQ _))
 (ak (EA qV qW rfl (aa (JG hr.gd hr.units (pv 1)) af)))
 aF))),?_⟩
 try dsimp only [jZ,GP]
 have V:=hS.Se
 obtain⟨Y,w2⟩:=hW.shown
 obtain⟨p,t,rfl,O,ht⟩:=hS
 obtain⟨a,dx,fs,rfl,na,ha,BF⟩:=id hB
 obtain⟨vr,Z,lr,ur,rfl,nr,L,pr⟩:=BF.rules
 have zr:=aai pr
 have bad:∀H',ah H H'->(∀r,¬ stepOk rs n ns r)->E (.ref C1) none H':=fun H' s' hb=>hE hb H' s'
 refine fO (Good:=fun σ' H'=>H'=H/\σ'=[some (.ref a),some (.ref p)]/\0<=n/\n<(rs.length:Int)) (fun _ fin=>?_) (fun σ' H' hg=>?_)
 ·refine⟨_,rfl,p,_,0,_,rfl,rfl,O,rfl,_,_,rfl,rfl,_,rfl,?_⟩
  refine dQ (fun G=>?_) (fun G=>?_)
  ·have G:n<0:=of_decide_eq_true G
   refine dP ⟨_,rfl,stepT n ns,V,sU n ns,Y,w2,fun x=>⟨(by show 1<=aaj;decide),bad _ (ah.refl _) fun r hr=>?_⟩⟩
   have:=hr.1
   omega
  ·have G:¬ n<0:=by simpa using G
   refine⟨_,rfl,p,_,0,_,rfl,rfl,O,rfl,_,rfl,a,c.book,dx,fs,_,rfl,ha,B.cl,B.n2,Z,lr,_,rfl,.inl (aC.of L),_,_,rfl,rfl,_,rfl,?_⟩
   refine dQ (fun J=>?_) (fun J=>?_)
   ·have J:(ur.length:Int)<=n:=of_decide_eq_true J
    refine⟨_,rfl,stepT n ns,V,sU n ns,Y,w2,fun x=>⟨(by show 1<=aaj;decide),bad _ (ah.refl _) fun r hr=>?_⟩⟩
    have z:=(aaf.mp hr.2.1).1
    omega
   ·have J:¬ (ur.length:Int)<=n:=by simpa using J
    exact fin _ _ ⟨rfl,rfl,by omega,by omega⟩
 obtain⟨rfl,rfl,h0,mi⟩:=hg
 have ZU:n.toNat<rs.length:=by omega
 have hR:=paired_at pr n.toNat ZU (by omega)
 obtain⟨ar,ZV,fr,X2,nar,Vr,RF⟩:=hR
 obtain⟨vn,en,ln,rfl,nn,OO⟩:=RF.names
 have SG:r6 ur n=some (ur[n.toNat]'(by omega)):=by
  have z:=bE (xs:=ur) (j:=n.toNat) (v:=ur[n.toNat]'(by omega)) (by rw [Ge9])
  rw [show((n.toNat:Nat):Int)=n by omega] at z
  exact z
 rw [X2] at SG
 refine⟨_,rfl,p,_,1,_,rfl,rfl,O,rfl,t,_,rfl,.inr ht,_,rfl,a,c.book,dx,fs,_,rfl,ha,B.cl,B.n2,Z,_,rfl,p,_,0,_,rfl,rfl,O,rfl,lr,_,_,_,rfl,rfl,aC.of L,SG,ar,c.rule,ZV,fr,_,rfl,Vr,T.cl,T.n7,en,ln,_,rfl,.inl (aC.of OO),rfl,_,rfl,?_⟩
 rw [Lm9,Lm9]
 refine dQ (fun G=>?_) (fun G=>?_)
 ·have G:ns.length≠(opens (rs[n.toNat].take++rs[n.toNat].keep)).length:=fun e=>by
   rw [e] at G
   simp at G
  refine⟨_,rfl,stepT n ns,V,sU n ns,Y,w2,fun x=>⟨(by show 1<=aaj;decide),bad _ (ah.refl _) fun r hr=>?_⟩⟩
  have z:=(aaf.mp hr.2.1).2
  rw [<- z] at hr
  exact G hr.2.2
 ·have G:(ns.length:Int)=((opens (rs[n.toNat].take++rs[n.toNat].keep)).length:Int):=by simpa using G
  exact q _ ⟨h0,Ge9 ZU,by omega⟩
theorem C4:aB ["book","pool","step","rule","stand"] ["book","pool","step"] (au Hz):=⟨rfl,rfl,rfl,by decide +kernel,rfl,by decide +kernel,by decide +kernel⟩
theorem Q5 (F:dz K "fits" "fits" Hz f fd) (T:sr K c.rule) (B:Qn K c.book) (lP:KJ P w K mg base "check_step" 1 ["book","step"] (uz K c C1)) (lQ:dn P w K mg base "looks_hold" 3 ["rule","stand"] (ux K c)) (jD:dn P w K mg base "heads_there" 2 ["kinds","rule","stand","pool"] (qO K c))
  (tP:dn P w K mg base "changes" 2 ["rule","stand","lasting"] (uy K c)) (iA:Met P w K mg base c.rule "calls" 1 ["self"] (vD K c)) (xt:mg "dict"=none) (OP:mg "zip"=none):aX P w K mg base (Gy P w) 4 f fd ["book","pool","step"] (Hu K c C1):=by
 refine F.okE C4 (fun vs H Q E h=>?_) (fun cP A outer s H vs Q E hr h=>?_)
 ·obtain⟨H0,bv,pq,sv,ks,rs,dM,cf,b,n,ns,rfl,_⟩:=h
  rfl
 obtain⟨H0,bv,pq,sv,ks,rs,dM,cf,b,n,ns,rfl,hB,hP,hS,V,VB,zU,hT,hE,q⟩:=h
 refine⟨_,(ag (bp (Fg lP hr.q rfl (aa (pv 0) (aa (pv 2) af))))
 (ag (aU (bU (aq ax (pv 1) ae (fun _ _=>rfl)))
 (ak (aG fB))
 aF)
 (ag (az (i:=3) C4.nd rfl (abi rfl) (aq aw (pe_fld (pv 0) rfl) (aq ax (pv 2) ae (fun _ _=>rfl)) (fun _ _=>rfl)))
 (ag (az (i:=4) C4.nd rfl (abi rfl) (w9 rfl (pe_fld (pv 3) rfl) (aq ax (pv 2) ae (fun _ _=>rfl)) rfl xt PyProof.Rows.Boot.«dict» rfl OP ahE))
 (ag (aU (PW.pt (oF (fK (bU (ao lQ hr.q rfl (aa (pv 3) (aa (pv 4) af))))) (mq (fK (bU (ao jD hr.q rfl (aa (pe_fld (pv 0) rfl) (aa (pv 3) (aa (pv 4) (aa (pv 1) af))))))))))
 (ak (aG fB))
 aF)
 (ak (aG (MB (vL (AS (pv 3) iA hr.q)) (pB (ao tP hr.q rfl (aa (pv 3) (aa (pv 4) (aa (aq ax (pv 1) ae (fun _ _=>rfl)) af))))))))))))),?_⟩
 try dsimp only [jZ,GP]
 refine⟨_,rfl,_,rfl,H0,bv,sv,ks,rs,n,ns,rfl,hB,hS,V,VB,hE,fun r hok=>?_⟩
 obtain⟨p,t0,t1,z2,y0,y1,rfl,hp,ZS,pb,SE,pl,Eb⟩:=id hP
 have q:=q r hok
 refine⟨_,rfl,p,_,3,_,rfl,rfl,hp,rfl,_,rfl,?_⟩
 cases b with
 | true=>exact dP (q H (ah.refl _))
 | false =>
  refine bw ?_
  obtain⟨h0,hget,hlen⟩:=id hok
  obtain⟨ZU,eR⟩:=aaf.mp hget
  obtain⟨sp,t,rfl,Kn,ht⟩:=hS
  obtain⟨a,dx,fs,rfl,na,ha,BF⟩:=id hB
  obtain⟨vr,er,lr,ur,rfl,nr,a2,pr⟩:=BF.rules
  obtain⟨vk,ek,lk,uk,rfl,nk,Z,pk⟩:=BF.kinds
  have zr:=aai pr
  have G:=paired_at pr n.toNat ZU (by omega)
  rw [eR] at G
  have X3:=hT r (acm hget)
  have SG:r6 ur n=some (ur[n.toNat]'(by omega)):=by
   have z:=bE (xs:=ur) (j:=n.toNat) (v:=ur[n.toNat]'(by omega)) (by rw [Ge9])
   rw [show((n.toNat:Nat):Int)=n by omega] at z
   exact z
  obtain⟨ar,ZV,fr,X2,nar,Vr,RF⟩:=id G
  obtain⟨vn,en,ln,rfl,nn,OO⟩:=RF.names
  rw [X2] at SG G
  refine⟨_,rfl,a,c.book,dx,fs,_,rfl,ha,B.cl,B.n2,er,_,rfl,sp,_,0,_,rfl,rfl,Kn,rfl,lr,_,_,_,rfl,rfl,aC.of a2,SG,?_⟩
  refine⟨_,rfl,ar,c.rule,ZV,fr,_,rfl,Vr,T.cl,T.n7,en,_,rfl,sp,_,1,_,rfl,rfl,Kn,rfl,ln,t,ns.map tx,(b8 r ns).map fJ,rfl,rfl,aC.of (by rw [JQ hlen];exact OO),.inr ht,Ov hlen,?_,fun d hd=>?_⟩
  ·rw [Lm9]
   have:=Fz (r:=r) (ns:=ns)
   have:=V.2.1
   omega
  rw [xa hlen]
  have s1:=ai hd (.dK ((b8 r ns).map fJ))
  have h1:=aW s1
  generalize upd H d _=H1 at s1 h1 ⊢
  have O:=G.keep (Kp.same (H0:=H0) s1)
  have few:=X3.few
  have X4:∀x,aI x=true->Xi (gM (b8 r ns) x):=fun x hx=>by
   rcases Hy (b8 r ns) x with z|z
   ·rw [z]
    have:=jV hx
    exact⟨this.1,by have:=this.2.1;omega⟩
   ·have:=V.2.2 _ (JR z)
    exact⟨this.1,by have:=this.2.1;omega⟩
  refine⟨_,rfl,_,rfl,H0,_,d,r,b8 r ns,rfl,O,h1,(fun k hk=>⟨X4 _ (X3.l k hk).1,X4 _ (X3.l k hk).2⟩),(by omega),fun U s2=>?_⟩
  have Q6:=ah.trans s1 s2
  have qF:∀H',ah H H'->(r.aT.all (ji (b8 r ns))=false\/jq ks (b8 r ns) r dM cf=false)->Q (.bl false) H':=fun H' s' a1=>by
   have z:=q H' s'
   have e:gS ks (b8 r ns) r dM cf false=false:=by
    unfold gS
    rcases a1 with e|e <;> rw [e] <;> simp
   rw [e] at z
   exact z
  cases Lh:r.aT.all (ji (b8 r ns)) with
  | false=>exact⟨_,rfl,dP (dP (qF U Q6 (.inl Lh)))⟩
  | true =>
   refine⟨_,rfl,bw ?_⟩
   have fa:∀g∈r.take++r.keep,g.as.length<=1000:=fun g Y=>by
    have z:=(X3.f g (by
     rcases aaq.mp Y with z|z
     ·exact aax _ z
     ·exact aak _ (aax _ z))).fn.n
    omega
   refine⟨_,rfl,a,c.book,dx,fs,_,rfl,Q6 _ _ ha,B.cl,B.n1,ek,_,rfl,_,rfl,_,rfl,H0,lk,_,d,_,ks,r,b8 r ns,dM,cf,false,rfl,⟨uk,Q6 _ _ Z,L2.Paired.bA pk fun _ _ z=>z.keep (Kp.same (H0:=H) Q6)⟩,G.keep (Kp.same (H0:=H0) Q6),s2 _ _ h1,hP.sm Q6,zU,(by omega),(by omega),fa,fun H3 s3=>?_⟩
   have xQ:=ah.trans Q6 s3
   cases Ur:jq ks (b8 r ns) r dM cf with
   | false=>exact⟨_,rfl,dP (qF H3 xQ (.inr Ur))⟩
   | true =>
    refine⟨_,rfl,bw ?_⟩
    have J:=G.keep (Kp.same (H0:=H0) xQ)
    refine⟨_,rfl,ar,ZV,fr,rfl,xQ _ _ Vr,RF.calls,H0,_,r,rfl,J,_,rfl,_,rfl,?_⟩
    have L:∀H',ah H H'->Q (.bl (!decide (r.take=[]) || dH (b8 r ns) r cf)) H':=fun H' s'=>by
     have z:=q H' s'
     have e:gS ks (b8 r ns) r dM cf false=(!decide (r.take=[]) || dH (b8 r ns) r cf):=by
      unfold gS
      rw [Lh,Ur]
      rfl
     rw [e] at z
     exact z
    by_cases e:r.take=[]
    ·rw [decide_eq_true e] at L ⊢
     refine bw ⟨_,rfl,_,rfl,_,rfl,p,_,1,_,rfl,rfl,hp.same xQ,rfl,H0,_,d,t1,r,b8 r ns,cf,y1,rfl,J,s3 _ _ (s2 _ _ h1),SE.same xQ,L2.Paired.bA pl fun _ _ z=>z.keep (Kp.same (H0:=H) xQ),(by omega),(by omega),fun g Y=>?_,fun H4 s4=>L _ (ah.trans xQ s4)⟩
     have z:=(X3.f g (aak _ (aak _ Y))).fn.n
     omega
    ·rw [decide_eq_false e] at L ⊢
     exact dP (L _ xQ)
end
section
variable {P:abn} {w:abU} {K:aaa} {mg:Str->Option aae} {base:Heap} {f:aay} {fd:abZ} {c:Cl}
theorem Iu {α:Type} {xs:List α} {v:Int} (h:1<=xs.length):∃(j:Nat) (B:j<xs.length),r6 xs (v % (xs.length:Int))=some xs[j]:=by
 have q:(0:Int)<(xs.length:Int):=by omega
 have md:=mid (a:=v) q
 refine⟨(v % (xs.length:Int)).toNat,by omega,?_⟩
 have z:=bE (xs:=xs) (j:=(v % (xs.length:Int)).toNat) (v:=xs[(v % (xs.length:Int)).toNat]'(by omega)) (by rw [Ge9])
 rw [show(((v % (xs.length:Int)).toNat:Nat):Int)=v % (xs.length:Int) by omega] at z
 exact z
theorem C5:aB ["_law_script","_law_k"] ["_law_script","_law_k"] (au m5):=⟨rfl,rfl,rfl,by decide +kernel,rfl,by decide +kernel,by decide +kernel⟩
theorem C6 (F:dz K "_law_cell" "_law_cell" m5 f fd) (bf:mg "len"=none):aX P w K mg base dS 1 f fd ["_law_script","_law_k"] (G9 K):=by
 refine F.ok C5 (fun vs H Q E h=>?_) (fun cP A outer s H vs Q E hr h=>?_)
 ·obtain⟨a,ns,k,rfl,_⟩:=h
  rfl
 obtain⟨a,ns,k,rfl,B,h0,q⟩:=h
 refine⟨_,(ag (aU (aE qg (pv 1) (aK aH rfl bf abq (aa (pv 0) af)) (aQ _))
 (ak (aG (aq aw (pv 0) (pv 1) (fun _ _=>rfl))))
 aF)
 (ak (aG ae))),?_⟩
 refine⟨_,rfl,_,rfl,a,_,rfl,.inl B,_,_,rfl,rfl,_,rfl,?_⟩
 refine dQ (fun c=>?_) (fun c=>?_)
 ·have G:k<(((ns.map V.int).length:Nat):Int):=of_decide_eq_true c
  have hk:k.toNat<ns.length:=by rw [Lm9] at G;omega
  have e:r6 (ns.map V.int) k=some (.int ns[k.toNat]):=by
   have z:=bE (xs:=ns.map V.int) (j:=k.toNat) (v:=.int ns[k.toNat]) (by simp [hk])
   rw [show((k.toNat:Nat):Int)=k by omega] at z
   exact z
  exact⟨_,rfl,_,rfl,a,_,k,_,rfl,rfl,B,e,q _⟩
 ·exact q 0
theorem dY:aB ["_law_cell_here","_law_sizes","_law_number","_law_found","_law_size"] ["_law_cell_here","_law_sizes"] (au jw):=⟨rfl,rfl,rfl,by decide +kernel,rfl,by decide +kernel,by decide +kernel⟩
theorem xR (F:dz K "_law_digits" "_law_digits" jw f fd):aX P w K mg base dS 1 f fd ["_law_cell_here","_law_sizes"] (sZ K):=by
 refine F.ok dY (fun vs H Q E h=>?_) (fun cP A outer s H vs Q E hr h=>?_)
 ·obtain⟨cc,l,ms,rfl,_⟩:=h
  rfl
 obtain⟨cc,l,ms,rfl,J,hfew,G,q⟩:=h
 refine⟨_,(ag (az (i:=2) dY.nd rfl (abi rfl) (aJ cF (aJ BS (aJ cF (pv 0) ae) ae) ae))
 (ag (az (i:=3) dY.nd rfl (abi rfl) (bb af))
 (ag (cB abB rfl (aN (pv 1)) (bj (i:=4) dY.nd rfl (abi rfl))
 (ag (bp (cU aaN abm abp bz (pv 3) (aa (aJ cF (pv 2) (pv 4)) af)))
 (ak (az (i:=2) dY.nd rfl (abi rfl) (aJ vo (pv 2) (pv 4))))))
 (ak (aG (pv 3)))))),?_⟩
 try dsimp only [jZ,GP]
 refine⟨_,rfl,_,_,rfl,rfl,(by show(0:Int)<2147483647;decide),_,_,rfl,rfl,.inr ⟨by decide,by decide⟩,_,_,rfl,rfl,(by show(0:Int)<2147483647;decide),?_⟩
 refine⟨(by show 0<=aaj;decide),fun p z=>?_⟩
 refine⟨_,rfl,l,rfl,⟨_,(ai z _).seq J⟩,bR (K:=K) (a:=l) (xs:=ms.map V.int) (fun i σ H'=>∃(n:Int) (o:Option V) (ds:List Int),σ=[some (.int cc),some (.ref l),some (.int n),some (.ref p),o]/\ah H H'/\H' p=some (.lst (ds.map V.int))/\Paired (fun m d:Int=>0<=d/\d<m) (ms.take i) ds)
  ⟨_,none,[],rfl,ai z _,aj,by rw [agl];exact .nil⟩ (fun i σ H' _ ⟨_,_,_,_,sm,_⟩=>sm.seq J) ?_ ?_⟩
 ·rintro i y σ H' hi ⟨n,o,ds,rfl,sm,hd,pr⟩
  rw [abc] at hi
  cases B:ms[i]? with
  | none=>rw [B] at hi;cases hi
  | some m =>
   rw [B] at hi
   obtain rfl:V.int m=y:=abA hi
   obtain⟨T8,L⟩:=aaf.mp B
   have hm:=G m (acm B)
   have O:=aai pr
   rw [aat] at O
   have md:=mid (a:=n) (b:=m) hm.1
   refine⟨_,rfl,.inl ⟨rfl,_,aC.of hd⟩,_,rfl,_,rfl,_,_,rfl,rfl,hm.1,p,_,_,rfl,rfl,hd,jg (by rw [Lm9];omega),?_⟩
   refine⟨_,rfl,_,rfl,_,_,rfl,rfl,⟨by omega,by omega⟩,?_⟩
   refine⟨_,_,ds++[n % m],rfl,ah.ba sm z _,?_,?_⟩
   ·rw [aj,aau]
    rfl
   ·rw [aao T8,L]
    exact pr.snoc md
 ·rintro σ H' ⟨n,o,ds,rfl,sm,hd,pr⟩
  rw [Lm9,abM] at pr
  exact⟨_,rfl,q p ds H' sm z hd pr⟩
theorem lR:aB ["_law_style","_law_k","_law_size","_law_at_here"] ["_law_style","_law_k"] (au m6):=⟨rfl,rfl,rfl,by decide +kernel,rfl,by decide +kernel,by decide +kernel⟩
theorem C7 (F:dz K "_law_name" "_law_name" m6 f fd):aX P w K mg base dS 1 f fd ["_law_style","_law_k"] Hd:=by
 refine F.ok lR (fun vs H Q E h=>?_) (fun cP A outer s H vs Q E hr h=>?_)
 ·obtain⟨st,k,rfl,_⟩:=h
  rfl
 obtain⟨st,k,rfl,h0,hk,q⟩:=h
 refine⟨_,(ag (az (i:=2) lR.nd rfl (abi rfl) (aJ gY ae (aJ cF (pv 0) ae)))
 (ag (az (i:=3) lR.nd rfl (abi rfl) (aJ cF (aJ vo (pv 0) ae) (pv 2)))
 (ak (aG (aJ bc (aJ bc (aJ JE aP (pv 3)) (aq j7 aP (pv 1) (fun _ _=>rfl))) (aJ JE aP (aJ GG (aJ GG (pv 2) ae) (pv 3)))))))),?_⟩
 have O:=mid (a:=st) (b:=5) (by decide)
 have J:=mid (a:=st / 5) (b:=1+st % 5) (by omega)
 refine⟨_,rfl,_,_,rfl,rfl,(by show(0:Int)<5;decide),_,_,rfl,rfl,?_⟩
 refine⟨_,rfl,_,_,rfl,rfl,⟨by decide,by decide⟩,_,rfl,_,_,rfl,rfl,(by show(0:Int)<1+st % 5;omega),?_⟩
 have G:(aad "m")=⟨#[109]⟩:=by decide +kernel
 have B:(aad "abcdefgh")=S fj:=by decide +kernel
 rw [G,B]
 refine⟨_,rfl,109,_,rfl,rfl,by omega,by omega,?_⟩
 have z:r6 (S fj).cps.toList (k:Int)=some (fj.getD k 0):=by
  rw [cz]
  exact bE (getD_get hk)
 refine⟨_,rfl,S fj,_,_,rfl,rfl,(by rw [aY];exact sz (by decide)),z,?_⟩
 have V:=Int.toNat_of_nonneg J.1
 have L:(st / 5 % (1+st % 5)).toNat+(1+st % 5 - 1 - st / 5 % (1+st % 5)).toNat<=4:=by omega
 have qq:=q _ _ rfl rfl L
 refine⟨_,_,rfl,rfl,?_,?_⟩
 ·rw [aY]
  show _+1<=_
  exact sz (by rw [adn];omega)
 refine⟨_,rfl,_,_,rfl,rfl,_,rfl,_,_,rfl,rfl,109,_,rfl,rfl,by omega,by omega,?_⟩
 rw [show(⟨#[fj.getD k 0]⟩:Str)=S [fj.getD k 0] from rfl,eS]
 refine⟨_,_,rfl,rfl,?_,?_⟩
 ·rw [aY,aY,aab,adn,adn]
  exact sz (by simp only [aal,abN];omega)
 rw [eS,abH]
 exact qq
theorem dO:aB ["_law_kinds_here","_law_number","_law_args","_law_kind","_law_found","_law_place"] ["_law_kinds_here","_law_number","_law_args"] (au lC):=⟨rfl,rfl,rfl,by decide +kernel,rfl,by decide +kernel,by decide +kernel⟩
theorem zV (F:dz K "_law_drawn" "_law_drawn" lC f fd) (bf:mg "len"=none) (C8:mg "range"=none) (eo:mg "tuple"=none):aX P w K mg base dS 1 f fd ["_law_kinds_here","_law_number","_law_args"] (vI K):=by
 refine F.ok dO (fun vs H Q E h=>?_) (fun cP A outer s H vs Q E hr h=>?_)
 ·obtain⟨lk,ln,n,ks,ns,rfl,_⟩:=h
  rfl
 obtain⟨lk,ln,n,ks,ns,rfl,⟨kvs,hk,pk⟩,a1,adl,adm,OO,Ec,GI,q⟩:=h
 have zk:=aai pk
 refine⟨_,(ag (az (i:=3) dO.nd rfl (abi rfl) (aq aw (pv 0) (aJ cF (pv 1) (aK aH rfl bf abq (aa (pv 0) af))) (fun _ _=>rfl)))
 (ag (az (i:=1) dO.nd rfl (abi rfl) (aJ vo (pv 1) (aK aH rfl bf abq (aa (pv 0) af))))
 (ag (az (i:=4) dO.nd rfl (abi rfl) (bb af))
 (ag (cB abB rfl (AI rfl C8 (aa (aq ax (pv 3) ae (fun _ _=>rfl)) af)) (bj (i:=5) dO.nd rfl (abi rfl))
 (ag (bp (cU aaN abm abp bz (pv 4) (aa (aq aw (pv 2) (aJ cF (pv 1) (aK aH rfl bf abq (aa (pv 2) af))) (fun _ _=>rfl)) af)))
 (ak (az (i:=1) dO.nd rfl (abi rfl) (aJ vo (pv 1) (aK aH rfl bf abq (aa (pv 2) af)))))))
 (ak (aG (a8 (aa (aq ax (pv 3) ae (fun _ _=>rfl)) (aa (cy gz rfl eo PyProof.Rows.Boot.«tuple» (aa (pv 4) af)) af))))))))),?_⟩
 try dsimp only [jZ,GP]
 obtain⟨j,hj,ej⟩:=Iu (xs:=kvs) (v:=n) (by omega)
 refine⟨_,rfl,_,rfl,_,rfl,lk,_,rfl,.inl (aC.of hk),_,_,rfl,rfl,(by show(0:Int)<(kvs.length:Int);omega),lk,_,_,_,rfl,rfl,aC.of hk,ej,?_⟩
 have G:j<ks.length:=by omega
 obtain⟨tk,et,Z⟩:=paired_at pk j G hj
 rw [et]
 have a2:=adm _ (aan G)
 refine⟨_,rfl,_,rfl,lk,_,rfl,.inl (aC.of hk),_,_,rfl,rfl,⟨by omega,by omega⟩,?_⟩
 refine⟨(by show 0<=aaj;decide),fun l hl=>?_⟩
 have s2:ah H (upd H l (.lst [])):=ai hl _
 have L:=aj (H:=H) (a:=l) (o:=.lst [])
 refine⟨_,rfl,tk,_,1,_,rfl,rfl,Z.same s2,rfl,?_⟩
 refine⟨(ks[j].c:Int),rfl,by omega,by omega,?_⟩
 have en:((ks[j].c:Nat):Int).toNat=ks[j].c:=acv _
 rw [en]
 refine Kh (lo:=0) (n:=ks[j].c) (fun i σ H'=>ah H H'/\∃(as:List Cs) (nn:Int) (Y:Option V),as.length=i/\(∀a∈as,a∈ns)/\H' l=some (.lst (as.map tx))/\σ=[some (.ref lk),some (.int nn),some (.ref ln),some (.ref tk),some (.ref l),Y]) ⟨s2,[],_,none,rfl,(fun a ha=>nomatch ha),L,rfl⟩ ?_ ?_
 ·rintro i σ H' hi ⟨sm,as,nn,Y,Ed,B,J,rfl⟩
  obtain⟨j2,O,ej2⟩:=Iu (xs:=ns.map tx) (v:=nn) (by rw [Lm9];omega)
  have adp:ln≠l:=fun e=>by rw [e,hl] at OO;cases OO
  have UT:H' ln=some (.lst (ns.map tx)):=sm _ _ OO
  have OQ:(0:Int)<((ns.map tx).length:Int):=by rw [Lm9];omega
  have ZW:((ns.map tx).length:Int)<2 ^ 30:=by rw [Lm9];omega
  refine⟨_,rfl,.inl ⟨rfl,_,aC.of J⟩,_,rfl,_,rfl,_,rfl,ln,_,rfl,.inl (aC.of UT),_,_,rfl,rfl,OQ,ln,_,_,_,rfl,rfl,aC.of UT,ej2,l,_,_,rfl,rfl,J,(by rw [Lm9,aaz];omega),?_⟩
  have adq:j2<ns.length:=by simpa using O
  refine⟨_,rfl,_,rfl,ln,_,rfl,.inl (aC.of (by rw [aD adp];exact UT)),_,_,rfl,rfl,⟨by omega,by omega⟩,?_⟩
  refine⟨ah.ba sm hl _,as++[ns[j2]],_,_,by simp [Ed],(fun a ha=>?_),(by rw [aj,aau];simp),rfl⟩
  rcases aaq.mp ha with z|z
  ·exact B a z
  ·rw [aap.mp z];exact aan adq
 ·rintro σ H' ⟨sm,as,nn,Y,Ed,B,J,rfl⟩
  have We:bH K H' tk [tx ks[j].n,.int ks[j].c,.bl ks[j].l]:=Z.same sm
  refine⟨_,rfl,tk,_,0,_,rfl,rfl,We,rfl,_,rfl,l,_,rfl,.inl ⟨aC.of J,fun p hp=>⟨(by show 2<=aaj;decide),fun p2 yI=>?_⟩⟩⟩
  refine q _ ⟨ks[j].n,as⟩ _ (ah.trans sm (ah.trans (ai hp _) (ai yI _))) ⟨p2,p,rfl,bH.of aj,bH.of ?_⟩ ⟨⟨_,aan G,rfl,Ed⟩,B⟩
  rw [aD (aO aj yI)]
  exact aj
theorem fact_words {g:Fc} (h:FN g):((g.as.map S).map (·.length)).sum+(g.as.map S).length * (aad ",").length<=16777216:=by
 have z:=om h.Uk
 have q:=h.n
 have e:(aad ",").length=1:=by decide +kernel
 rw [Lm9,e]
 have:g.as.length * 12<=4 * 12:=ac9 _ q
 omega
theorem JV:aad ","=(⟨#[44]⟩:Str):=by decide +kernel
theorem OR (k:Cs) (as:List Cs):S k++aad "("++ait (aad ",") (as.map S)++aad ")"=S (((k++[40])++ig 44 as)++[41]):=by
 have q:aad "("=S [40]:=by decide +kernel
 have z:aad ")"=S [41]:=by decide +kernel
 rw [q,z,JV,Cc,eS,eS,eS]
theorem C9:aB ["_law_fact_here"] ["_law_fact_here"] (au m7):=⟨rfl,rfl,rfl,by decide +kernel,rfl,by decide +kernel,by decide +kernel⟩
theorem Dc (F:dz K "_law_fact" "_law_fact" m7 f fd) (bf:mg "len"=none) (Ii:mg "list"=none):aX P w K mg base dS 1 f fd ["_law_fact_here"] (Ol K):=by
 refine F.ok C9 (fun vs H Q E h=>?_) (fun cP A outer s H vs Q E hr h=>?_)
 ·obtain⟨v,g,rfl,_⟩:=h
  rfl
 obtain⟨v,g,rfl,⟨t,G,rfl,h1,h2⟩,B,q⟩:=h
 refine⟨_,(ag (aU (aE du (aK aH rfl bf abq (aa (aq ax (pv 0) ae (fun _ _=>rfl)) af)) ae (aQ _))
 (ak (aG (aq ax (pv 0) ae (fun _ _=>rfl))))
 aF)
 (ak (aG (aJ bc (aJ bc (aJ bc (aq ax (pv 0) ae (fun _ _=>rfl)) aP) (cU adb aes aet vw aP (aa (cy BZ rfl Ii PyProof.Rows.Boot.«list» (aa (aq ax (pv 0) ae (fun _ _=>rfl)) af)) af))) aP)))),?_⟩
 try dsimp only [jZ,GP]
 have hk:=B.W3
 have L:=wM g.as B.Uk
 have hn:=B.n
 refine⟨_,rfl,t,_,1,_,rfl,rfl,h1,rfl,G,_,rfl,.inr h2,rfl,_,rfl,?_⟩
 rw [Lm9]
 by_cases e:g.as=[]
 ·have q:=q H (ah.refl _)
  unfold bJ at q
  rw [if_pos e] at q
  rw [e]
  exact dP ⟨_,rfl,t,_,0,_,rfl,rfl,h1,rfl,q⟩
 ·have z:decide (V.int (g.as.length:Int)=V.int 0)=false:=by
   refine decide_eq_false fun z=>e ?_
   have O:(g.as.length:Int)=0:=by injection z
   exact adx (by omega)
  rw [z]
  have J:(ait (aad ",") (g.as.map S)).length<=100:=by rw [JV,Cc,aY];omega
  refine bw ⟨_,rfl,t,_,0,_,rfl,rfl,h1,rfl,_,_,rfl,rfl,?_,?_⟩
  ·rw [aY,aaz];have:(aad "(").length=1:=by decide +kernel
   omega
  refine⟨rfl,_,rfl,t,_,1,_,rfl,rfl,h1,rfl,G,_,rfl,.inr h2,fun l hl=>?_⟩
  have q:=q _ (ai hl (.lst (g.as.map tx)))
  unfold bJ at q
  rw [if_neg e] at q
  refine⟨_,l,g.as.map S,rfl,rfl,.inl (aC.of (by rw [<- pK];exact aj)),fact_words B,_,_,rfl,rfl,?_,_,_,rfl,rfl,?_,?_⟩
  ·rw [strLen_append,aY,aaz]
   have:(aad "(").length=1:=by decide +kernel
   omega
  ·rw [strLen_append,strLen_append,aY,aaz]
   have:(aad "(").length=1:=by decide +kernel
   have:(aad ")").length=1:=by decide +kernel
   omega
  ·rw [OR]
   exact q
theorem Dd:aB ["_law_word","_law_members"] ["_law_word","_law_members"] (au m9):=⟨rfl,rfl,rfl,by decide +kernel,rfl,by decide +kernel,by decide +kernel⟩
theorem De (F:dz K "_law_part" "_law_part" m9 f fd) (bf:mg "len"=none):aX P w K mg base dS 1 f fd ["_law_word","_law_members"] Fu:=by
 refine F.ok Dd (fun vs H Q E h=>?_) (fun cP A outer s H vs Q E hr h=>?_)
 ·obtain⟨w,l,ms,rfl,_⟩:=h
  rfl
 obtain⟨w,l,ms,rfl,hl,Y,hm,B,q⟩:=h
 refine⟨_,(ag (aU (aE du (aK aH rfl bf abq (aa (pv 1) af)) ae (aQ _))
 (ak (aG (bb af)))
 aF)
 (ak (aG (bb (aa (aJ bc (aJ bc (pv 0) aP) (cU adb aes aet vw aP (aa (pv 1) af))) af))))),?_⟩
 refine⟨_,rfl,l,_,rfl,.inl (aC.of hl),rfl,_,rfl,?_⟩
 rw [Lm9]
 by_cases e:ms=[]
 ·subst e
  refine dP ⟨(by show 0<=aaj;decide),fun p G=>?_⟩
  exact q p _ (ai G _) G (by rw [aj];unfold cC;rw [if_pos rfl];rfl)
 ·have z:decide (V.int (ms.length:Int)=V.int 0)=false:=by
   refine decide_eq_false fun z=>e ?_
   have Z:(ms.length:Int)=0:=by injection z
   exact adx (by omega)
  rw [z]
  have J:(aad " ")=S [32]:=by decide +kernel
  have L:(aad ", ")=S [44,32]:=by decide +kernel
  have O:=Oa B
  refine bw ⟨_,rfl,_,_,rfl,rfl,(by rw [J,aY,aY,aaz];show _+1<=_;omega),rfl,_,rfl,_,l,ms.map S,rfl,rfl,.inl (aC.of (by rw [<- pK];exact hl)),?_,_,_,rfl,rfl,?_,(by show 1<=aaj;decide),fun p G=>?_⟩
  ·have z:=om B
   rw [L,aY,Lm9]
   have:ms.length * 70<=10 * 70:=ac9 _ hm
   show _+ms.length * 2<=_
   omega
  ·rw [J,L,Cm,<- pO,eS,aY,aY,aab,aaz]
   have:ms.length * (70+2)<=10 * (70+2):=ac9 _ hm
   show w.length+1+_<=_
   omega
  ·refine q p _ (ai G _) G ?_
   rw [aj,J,L,Cm,<- pO,eS,eS]
   unfold cC
   rw [if_neg e,abH]
   rfl
end
section
variable {P:abn} {w:abU} {K:aaa} {mg:Str->Option aae} {base:Heap} {f:aay} {fd:abZ} {c:Cl}
theorem SH (a:Nat):decide (V.str ⟨#[a]⟩=V.str (aad "N"))=decide (a=78):=by
 have e:V.str (aad "N")=V.str ⟨#[78]⟩:=by decide +kernel
 rw [e,decide_eq_decide]
 constructor
 ·intro h
  injection h with h
  injection h with h
  simpa using h
 ·intro h
  rw [h]
theorem FP (fs:List Fc):kn [] (fs.flatMap (·.as))=opens fs:=by
 unfold opens
 rw [gK]
 unfold eQ kn
 have e:(fun acc x=>jh x acc)=Cj:=by
  funext acc x
  unfold jh Cj
  rfl
 rw [e]
theorem gE:aB ["_law_facts","_law_found","_law_fact_here","_law_name_here"] ["_law_facts"] (au lF):=⟨rfl,rfl,rfl,by decide +kernel,rfl,by decide +kernel,by decide +kernel⟩
theorem zW (F:dz K "_law_names" "_law_names" lF f fd):aX P w K mg base dS 1 f fd ["_law_facts"] (tf K):=by
 refine F.ok gE (fun vs H Q E h=>?_) (fun cP A outer s H vs Q E hr h=>?_)
 ·obtain⟨lf,fs,rfl,_⟩:=h
  rfl
 obtain⟨lf,fs,rfl,⟨A3,hf,pf⟩,adl,P5,q⟩:=h
 refine⟨_,(ag (az (i:=1) gE.nd rfl (abi rfl) (bb af))
 (ag (cB abB rfl (aN (pv 0)) (bj (i:=2) gE.nd rfl (abi rfl))
 (ak (cB abB rfl (vN (aq ax (pv 2) ae (fun _ _=>rfl))) (bj (i:=3) gE.nd rfl (abi rfl))
 (ak (aU (PW.pt (mr (aE du (aq j7 (pv 3) ae (fun _ _=>rfl)) aP (aQ _)) (je (aE cX (pv 3) (pv 1) (by with_unfolding_all rfl)))))
 (ak (bp (cU aaN abm abp bz (pv 1) (aa (pv 3) af))))
 aF)))))
 (ak (aG (pv 1))))),?_⟩
 try dsimp only [jZ,GP]
 have zf:=aai pf
 refine⟨(by show 0<=aaj;decide),fun l hl=>?_⟩
 have s1:=ai hl (.lst [])
 refine⟨_,rfl,lf,rfl,⟨_,aC.of (s1 _ _ hf)⟩,bR (K:=K) (a:=lf) (xs:=A3) (fun i σ H'=>ah H H'/\H' l=some (.lst ((kn [] ((fs.take i).flatMap (·.as))).map tx))/\∃o V,σ=[some (.ref lf),some (.ref l),o,V]) ⟨s1,aj,none,none,rfl⟩ (fun i σ H' _ ⟨sm,_⟩=>aC.of (sm _ _ hf)) ?_ ?_⟩
 ·rintro i y σ H' hi ⟨sm,J,o,V,rfl⟩
  obtain⟨Ij,ey⟩:=aA hi
  have JU:i<fs.length:=by omega
  have G:=paired_at pf i JU Ij
  rw [ey] at G
  obtain⟨t,t2,et,g1,Z⟩:=G
  subst et
  have hF:=P5 _ (aan JU)
  have e0:kn [] ((fs.take (i+1)).flatMap (·.as))=kn (kn [] ((fs.take i).flatMap (·.as))) fs[i].as:=by rw [KL JU,Uc]
  have hz:=Ck ((fs.take i).flatMap (·.as)) []
  have a3:((fs.take i).flatMap (·.as)).length<=4 * i:=by
   have z:=W7 (fs:=fs.take i) fun g B=>(P5 g (abT B)).1
   rw [aat] at z
   omega
  simp only [abN] at hz
  rw [e0]
  generalize kn [] ((fs.take i).flatMap (·.as))=acc at J hz ⊢
  generalize fs[i].as=ns at Z hF ⊢
  refine⟨_,rfl,t,_,1,_,rfl,rfl,g1.same sm,rfl,t2,rfl,⟨_,Z.same sm⟩,BR (K:=K) (a:=t2) (xs:=ns.map tx) (fun j σ U=>ah H U/\U l=some (.lst ((kn acc (ns.take j)).map tx))/\∃V,σ=[some (.ref lf),some (.ref l),some (.ref t),V]) ⟨sm,J,_,rfl⟩ (fun i σ H' _ ⟨sm,_⟩=>Z.same sm) ?_ ?_⟩
  ·rintro j y σ U ZF ⟨tu,mf,o,rfl⟩
   obtain⟨a2,ey2⟩:=aA ZF
   have O:j<ns.length:=by simpa using a2
   have ey2:tx ns[j]=y:=by rw [<- ey2];simp
   subst ey2
   have Ml:=hF.2 _ (aan O)
   have L:=jV Ml.1
   have Y:kn acc (ns.take (j+1))=Cj (kn acc (ns.take j)) ns[j]:=by
    rw [aao O]
    unfold kn
    rw [aez]
    rfl
   have hlen:=Ck (ns.take j) acc
   rw [aat] at hlen
   have h4:=hF.1
   generalize kn acc (ns.take j)=ac at Y hlen mf ⊢
   have mj:1<=(S ns[j]).length:=by
    rw [aY]
    cases hh:ns[j] with
    | nil=>exact absurd hh L.1
    | cons a r=>simp
   refine⟨_,rfl,S ns[j],0,_,rfl,rfl,(by rw [aY];exact sz (by have:=L.2.1;omega)),qD mj,rfl,_,rfl,?_⟩
   rw [cz,SH,<- Ml.2]
   by_cases B:great ns[j]=true
   ·rw [B]
    refine dP ?_
    refine⟨_,rfl,_,rfl,l,_,rfl,.inl (aC.of mf),rfl,dj _,_,rfl,?_⟩
    rw [if_pos rfl,d9]
    by_cases hm:ns[j]∈ac
    ·rw [decide_eq_true hm]
     refine bw ⟨tu,?_,_,rfl⟩
     rw [mf,Y]
     unfold Cj
     rw [if_pos B,if_pos hm]
    ·rw [decide_eq_false hm]
     refine dP ⟨_,rfl,.inl ⟨rfl,_,aC.of mf⟩,_,rfl,l,_,_,rfl,rfl,mf,(by rw [Lm9,aaz];omega),?_⟩
     refine⟨ah.ba tu hl _,?_,_,rfl⟩
     rw [aj,Y]
     unfold Cj
     rw [if_pos B,if_neg hm,aau]
     rfl
   ·have a1:great ns[j]=false:=by simpa using B
    rw [a1]
    refine bw (bw ⟨tu,?_,_,rfl⟩)
    rw [mf,Y]
    unfold Cj
    rw [if_neg B]
  ·rintro σ U ⟨tu,mf,o,rfl⟩
   rw [Lm9,abM] at mf
   exact⟨tu,mf,_,_,rfl⟩
 ·rintro σ H' ⟨sm,J,o,V,rfl⟩
  rw [<- zf,abM,FP] at J
  exact⟨_,rfl,q l H' sm hl J⟩
theorem gF:aB ["_law_cell_here","_law_d","_law_kinds_here"] ["_law_cell_here"] (au lD):=⟨rfl,rfl,rfl,by decide +kernel,rfl,by decide +kernel,by decide +kernel⟩
theorem zX (F:dz K "_law_kinds" "_law_kinds" lD f fd) (aS:dn P w K mg base "_law_digits" 1 ["_law_cell_here","_law_sizes"] (sZ K)) (cw:dn P w K mg base "_law_name" 1 ["_law_style","_law_k"] Hd):aX P w K mg base dS 2 f fd ["_law_cell_here"] (Bq K):=by
 refine F.ok gF (fun vs H Q E h=>?_) (fun cP A outer s H vs Q E hr h=>?_)
 ·obtain⟨c,rfl,_⟩:=h
  rfl
 obtain⟨c,rfl,q⟩:=h
 refine⟨_,(ag (az (i:=1) gF.nd rfl (abi rfl) (ao aS hr.q rfl (aa (pv 0) (aa (bb (aa ae (aa ae (aa ae (aa ae (aa ae af)))))) af))))
 (ag (az (i:=2) gF.nd rfl (abi rfl) (bb (aa (a8 (aa (ao cw hr.q rfl (aa (aq aw (pv 1) ae (fun _ _=>rfl)) (aa ae af))) (aa (aq aw (pv 1) ae (fun _ _=>rfl)) (aa fB af)))) (aa (a8 (aa (ao cw hr.q rfl (aa (aq aw (pv 1) ae (fun _ _=>rfl)) (aa ae af))) (aa (aq ax (a8 (aa ae (aa ae (aa ae (aa ae af))))) (aq aw (pv 1) ae (fun _ _=>rfl)) (fun _ _=>rfl)) (aa fB af)))) af))))
 (ag (az (i:=2) gF.nd rfl (abi rfl) (aJ cZ (pv 2) (bb (aa (a8 (aa (ao cw hr.q rfl (aa (aq aw (pv 1) ae (fun _ _=>rfl)) (aa ae af))) (aa ae (aa fB af)))) (aa (a8 (aa (ao cw hr.q rfl (aa (aq aw (pv 1) ae (fun _ _=>rfl)) (aa ae af))) (aa (aq aw (pv 1) ae (fun _ _=>rfl)) (aa fB af)))) af)))))
 (ak (aG (aJ cZ (bI cT (pv 2) (bB (aq aw (pv 1) ae (fun _ _=>rfl))) di) (bI cT (pv 2) di (bB (aq aw (pv 1) ae (fun _ _=>rfl)))))))))),?_⟩
 try dsimp only [jZ,GP]
 refine⟨_,rfl,(by show 5<=aaj;decide),fun lz a7=>⟨c,lz,[25,2,4,2,4],rfl,aC.of aj,by decide,by decide,fun ld ds H1 s1 ZX me pr=>?_⟩⟩
 obtain⟨d0,e0,b0⟩:=aM pr (k:=0) rfl
 obtain⟨Z,e1,b1⟩:=aM pr (k:=1) rfl
 obtain⟨d2,e2,b2⟩:=aM pr (k:=2) rfl
 obtain⟨d3,e3,b3⟩:=aM pr (k:=3) rfl
 obtain⟨L,e4,b4⟩:=aM pr (k:=4) rfl
 have sA:=ah.trans (ai a7 (.lst ([25,2,4,2,4].map V.int))) s1
 obtain⟨c2,Pk,ec2⟩:∃c:Nat,c<=4/\r6 [V.int 0,.int 1,.int 2,.int 4] (d2:Int)=some (.int (c:Int)):=by
  rcases(by omega:d2=0\/d2=1\/d2=2\/d2=3) with e|e|e|e <;> subst e
  ·exact⟨0,by decide,bE rfl⟩
  ·exact⟨1,by decide,bE rfl⟩
  ·exact⟨2,by decide,bE rfl⟩
  ·exact⟨4,by decide,bE rfl⟩
 refine⟨_,rfl,ld,_,0,_,rfl,rfl,aC.of me,e0,(d0:Int),0,rfl,by omega,by decide,fun a b ha hb O=>?_⟩
 refine⟨_,rfl,ld,_,1,_,rfl,rfl,aC.of me,e1,(by show 3<=aaj;decide),fun t1 zj=>?_⟩
 have x1:=ai zj (.tup [tx (nameOf a b 0),.int Z,.bl false])
 have y1:=aW x1
 have mf:=x1 _ _ me
 generalize upd H1 t1 _=U at x1 y1 mf ⊢
 refine⟨_,rfl,ld,_,0,_,rfl,rfl,aC.of mf,e0,(d0:Int),1,rfl,by omega,by decide,fun a' b' B J _=>?_⟩
 obtain rfl:a=a':=ha.trans B.symm
 obtain rfl:b=b':=hb.trans J.symm
 refine⟨(by show 4<=aaj;decide),fun tt GA=>?_⟩
 have x2:=ai GA (.tup [V.int 0,.int 1,.int 2,.int 4])
 have y2:=aW x2
 have oM:=x2 _ _ mf
 generalize upd U tt _=H3 at x2 y2 oM ⊢
 refine⟨_,rfl,ld,_,2,_,rfl,rfl,aC.of oM,e2,tt,_,_,_,rfl,rfl,bH.of y2,ec2,(by show 3<=aaj;decide),fun t2 qJ=>?_⟩
 have x3:=ai qJ (.tup [tx (nameOf a b 1),.int c2,.bl false])
 have y3:=aW x3
 have zY:=x3 _ _ oM
 generalize upd H3 t2 _=H4 at x3 y3 zY ⊢
 refine⟨(by show 2<=aaj;decide),fun l1 mj=>?_⟩
 have x4:=ai mj (.lst [V.ref t1,V.ref t2])
 have y4:=aW x4
 have Li:=x4 _ _ zY
 generalize upd H4 l1 _=H5 at x4 y4 Li ⊢
 refine⟨_,rfl,_,rfl,ld,_,0,_,rfl,rfl,aC.of Li,e0,(d0:Int),2,rfl,by omega,by decide,fun a' b' B J _=>?_⟩
 obtain rfl:a=a':=ha.trans B.symm
 obtain rfl:b=b':=hb.trans J.symm
 refine⟨(by show 3<=aaj;decide),fun t3 ZQ=>?_⟩
 have x5:=ai ZQ (.tup [tx (nameOf a b 2),.int 2,.bl true])
 have y5:=aW x5
 have ZY:=x5 _ _ Li
 generalize upd H5 t3 _=H6 at x5 y5 ZY ⊢
 refine⟨_,rfl,ld,_,0,_,rfl,rfl,aC.of ZY,e0,(d0:Int),3,rfl,by omega,by decide,fun a' b' B J _=>?_⟩
 obtain rfl:a=a':=ha.trans B.symm
 obtain rfl:b=b':=hb.trans J.symm
 refine⟨_,rfl,ld,_,3,_,rfl,rfl,aC.of ZY,e3,(by show 3<=aaj;decide),fun t4 b0=>?_⟩
 have x6:=ai b0 (.tup [tx (nameOf a b 3),.int d3,.bl true])
 have y6:=aW x6
 have a1:=x6 _ _ ZY
 generalize upd H6 t4 _=H7 at x6 y6 a1 ⊢
 refine⟨(by show 2<=aaj;decide),fun l2 gW=>?_⟩
 have x7:=ai gW (.lst [V.ref t3,V.ref t4])
 have y7:=aW x7
 have a2:=x7 _ _ a1
 generalize upd H7 l2 _=H8 at x7 y7 a2 ⊢
 have a5:=ah.trans x5 (ah.trans x6 x7)
 refine⟨l1,l2,_,_,rfl,rfl,a5 _ _ y4,y7,(by show 2+2<=aaj;decide),fun l3 Bx=>?_⟩
 have x8:=ai Bx (.lst ([V.ref t1,V.ref t2]++[V.ref t3,V.ref t4]))
 have y8:=aW x8
 have Y:=x8 _ _ a2
 generalize upd H8 l3 _=H9 at x8 y8 Y ⊢
 have h4:L<=4:=by omega
 have K9:Paired (Kind K H9) [⟨nameOf a b 0,Z,false⟩,⟨nameOf a b 1,c2,false⟩,⟨nameOf a b 2,2,true⟩,⟨nameOf a b 3,d3,true⟩] ([V.ref t1,V.ref t2]++[V.ref t3,V.ref t4]):=by
  have ZZ:=ah.trans x7 x8
  have a6:=ah.trans x6 ZZ
  have a4:=ah.trans x4 (ah.trans x5 a6)
  have b6:=ah.trans x2 (ah.trans x3 a4)
  exact .cons ⟨t1,rfl,bH.of (b6 _ _ y1)⟩ (.cons ⟨t2,rfl,bH.of (a4 _ _ y3)⟩ (.cons ⟨t3,rfl,bH.of (a6 _ _ y5)⟩ (.cons ⟨t4,rfl,bH.of (ZZ _ _ y6)⟩ .nil)))
 have sB:ah H H9:=ah.trans sA (ah.trans x1 (ah.trans x2 (ah.trans x3 (ah.trans x4 (ah.trans a5 x8)))))
 have G:KG [⟨nameOf a b 0,Z,false⟩,⟨nameOf a b 1,c2,false⟩,⟨nameOf a b 2,2,true⟩,⟨nameOf a b 3,d3,true⟩]:=by
  have ne:∀i j:Nat,i<8->j<8->i≠j->nameOf a b i≠nameOf a b j:=fun i j hi hj h e=>h (wD hi hj e)
  have b1':Z<2:=by omega
  have b3':d3<2:=by omega
  refine⟨rfl,?_,fun k hk=>?_,⟨_,aam _ (aam _ (aas ..)),rfl⟩,⟨_,aas ..,rfl⟩⟩
  ·simp only [abw,adK,ac6,aaK,adw,or_false,not_or,ahO,not_false_eq_true,and_true]
   exact⟨⟨ne 0 1 (by decide) (by decide) (by decide),ne 0 2 (by decide) (by decide) (by decide),ne 0 3 (by decide) (by decide) (by decide)⟩,⟨ne 1 2 (by decide) (by decide) (by decide),ne 1 3 (by decide) (by decide) (by decide)⟩,ne 2 3 (by decide) (by decide) (by decide)⟩
  ·simp only [aaK,adw,or_false] at hk
   rcases hk with rfl|rfl|rfl|rfl
   ·exact⟨gp (by decide) O,by show Z<=4;omega⟩
   ·exact⟨gp (by decide) O,Pk⟩
   ·exact⟨gp (by decide) O,by show 2<=4;decide⟩
   ·exact⟨gp (by decide) O,by show d3<=4;omega⟩
 generalize ([⟨nameOf a b 0,Z,false⟩,⟨nameOf a b 1,c2,false⟩,⟨nameOf a b 2,2,true⟩,⟨nameOf a b 3,d3,true⟩]:List Kd)=ks at K9 G
 have zk:=aai K9
 rw [G.len] at zk
 generalize [V.ref t1,V.ref t2]++[V.ref t3,V.ref t4]=kvs at y8 K9 zk
 refine aL ?_
 dsimp only
 refine⟨_,rfl,_,rfl,ld,_,4,_,rfl,rfl,aC.of Y,e4,_,rfl,l3,_,rfl,aC.of y8,fun l4 OK=>?_⟩
 rw [qw (by omega)]
 have p1:=ai OK (.lst (kvs.drop L))
 have r1:=aW p1
 have a3:=p1 _ _ Y
 have y8a:=p1 _ _ y8
 generalize upd H9 l4 _=HA at p1 r1 a3 y8a ⊢
 refine⟨_,rfl,_,rfl,ld,_,4,_,rfl,rfl,aC.of a3,e4,_,rfl,l3,_,rfl,aC.of y8a,fun l5 Gz=>?_⟩
 rw [kC (by omega)]
 have p2:=ai Gz (.lst (kvs.take L))
 have r2:=aW p2
 have Pu:=p2 _ _ r1
 generalize upd HA l5 _=HB at p2 r2 Pu ⊢
 refine⟨l4,l5,_,_,rfl,rfl,Pu,r2,(by rw [aaz,abO,aat];omega),fun l6 Lf=>?_⟩
 have p3:=ai Lf (.lst (kvs.drop L++kvs.take L))
 have sC:=ah.trans p1 (ah.trans p2 p3)
 have sD:=ah.trans sB sC
 refine q l6 (ks.drop L++ks.take L) _ sD (ah.free (ah.trans sB (ah.trans p1 p2)) Lf) ⟨_,aj,L2.Paired.bA (bx (mM L K9) (dw L K9)) fun _ _ z=>z.keep (Kp.same (H0:=H9) sC)⟩ (G.QM (Oe L ks))
theorem dc:aB ["_law_kinds_here","_law_cell_here","_law_args","_law_passing","_law_d","_law_e","_law_taken","_law_kept"] ["_law_kinds_here","_law_cell_here","_law_args"] (au lE):=⟨rfl,rfl,rfl,by decide +kernel,rfl,by decide +kernel,by decide +kernel⟩
theorem zZ (F:dz K "_law_heads" "_law_heads" lE f fd) (aS:dn P w K mg base "_law_digits" 1 ["_law_cell_here","_law_sizes"] (sZ K)) (bt:dn P w K mg base "_law_drawn" 1 ["_law_kinds_here","_law_number","_law_args"] (vI K)) (bf:mg "len"=none):aX P w K mg base dS 2 f fd ["_law_kinds_here","_law_cell_here","_law_args"] (Br K):=by
 refine F.ok dc (fun vs H Q E h=>?_) (fun cP A outer s H vs Q E hr h=>?_)
 ·obtain⟨lk,la,cc,ks,ns,rfl,_⟩:=h
  rfl
 obtain⟨lk,la,cc,ks,ns,rfl,zU,hG,UU,Ec,GI,q⟩:=h
 refine⟨_,(ag (eZ (i:=3) [] dc.nd rfl (abi rfl) rfl (by kernel_rfl) (aN (pv 0)) (fun _ _ _ _ _=>(gA (fK (bU (aq (r:=gh K) ax (pv 0) ae (fun _ _=>rfl)))))) (fun _ _ _ _ _=>(pv 0)))
 (ag (az (i:=4) dc.nd rfl (abi rfl) (ao aS hr.q rfl (aa (pv 1) (aa (bb (aa ae (aa ae (aa ae (aa ae af))))) af))))
 (ag (az (i:=5) dc.nd rfl (abi rfl) (ao aS hr.q rfl (aa (aJ cF (aJ BS (aJ cF (pv 1) ae) ae) ae) (aa (bb (aa ae (aa ae af))) af))))
 (ag (az (i:=6) dc.nd rfl (abi rfl) (bI cT (bb (aa (ao bt hr.q rfl (aa (pv 3) (aa (aq aw (pv 4) ae (fun _ _=>rfl)) (aa (pv 2) af)))) (aa (ao bt hr.q rfl (aa (pv 3) (aa (aq aw (pv 4) ae (fun _ _=>rfl)) (aa (pv 2) af)))) af))) di (bB (aq aw (pv 4) ae (fun _ _=>rfl)))))
 (ag (az (i:=7) dc.nd rfl (abi rfl) (bI cT (bb (aa (ao bt hr.q rfl (aa (pv 0) (aa (aq aw (pv 5) ae (fun _ _=>rfl)) (aa (pv 2) af)))) (aa (ao bt hr.q rfl (aa (pv 0) (aa (aq aw (pv 5) ae (fun _ _=>rfl)) (aa (pv 2) af)))) af))) di (bB (aq aw (pv 4) ae (fun _ _=>rfl)))))
 (ag (aU (aE du (aJ gY (aK aH rfl bf abq (aa (pv 6) af)) (aK aH rfl bf abq (aa (pv 7) af))) ae (aQ _))
 (ak (az (i:=7) dc.nd rfl (abi rfl) (bb (aa (ao bt hr.q rfl (aa (pv 0) (aa (aq aw (pv 5) ae (fun _ _=>rfl)) (aa (pv 2) af)))) af))))
 aF)
 (ak (aG (a8 (aa (pv 6) (aa (pv 7) af))))))))))),?_⟩
 try dsimp only [jZ,GP]
 obtain⟨kvs,hk,pk⟩:=id zU
 have zk:=aai pk
 have c4:=hG.len
 refine⟨_,rfl,lk,rfl,⟨_,aC.of hk⟩,fun D hD=>?_⟩
 refine ef (K:=K) (xs:=kvs) ks Po id (fun _ H f y=>Kind K H f y) (fun _ _ _ _ _ k h=>Kind.keep k h) (fun _ _ _ _ _ _ h=>h) (jg (by omega)) hD (aC.of hk) zk (fun i x b H' R hx hb sm hQ=>?_) (fun i x b H' R hx hb Z0 sm hQ=>?_) (fun H1 Zs s1 me po1=>?_)
 ·obtain⟨hi,ex⟩:=aA hx
  obtain⟨cH,eb⟩:=aA hb
  have JW:=paired_at pk i cH hi
  rw [ex,eb] at JW
  obtain⟨t,rfl,ht⟩:=JW
  exact⟨_,rfl,t,_,2,_,rfl,rfl,ht.same sm,rfl,_,rfl,hQ _ (ah.refl _)⟩
 ·obtain⟨hi,ex⟩:=aA hx
  obtain⟨cH,eb⟩:=aA hb
  have JW:=paired_at pk i cH hi
  rw [ex,eb] at JW
  exact⟨_,rfl,hQ _ _ (ah.refl _) (Kind.sm sm JW)⟩
 rw [aep] at po1
 have c1:pL K H1 D (ks.filter Po):=⟨Zs,me,po1⟩
 have c3:∀p:Kd->Bool,(∃k∈ks,p k=true)->1<=(ks.filter p).length/\(ks.filter p).length<=100/\∀k∈ks.filter p,k.c<=4:=fun p ⟨k,hk,hp⟩=>by
  have z:k∈ks.filter p:=ab1.mpr ⟨hk,hp⟩
  have z1:1<=(ks.filter p).length:=by
   cases e:ks.filter p with
   | nil=>rw [e] at z;cases z
   | cons a r=>simp
  have z2:(ks.filter p).length<=ks.length:=acw _ _
  exact⟨z1,by omega,fun k hk=>(hG.ok k (ab1.mp hk).1).2⟩
 have fP:=c3 Po (by obtain⟨k,hk,e⟩:=hG.no;exact⟨k,hk,by unfold Po;rw [e];rfl⟩)
 have fA:∀k∈ks,k.c<=4:=fun k hk=>(hG.ok k hk).2
 refine⟨_,rfl,(by show 4<=aaj;decide),fun lz a2=>⟨cc,lz,[3,3,512,512],rfl,aC.of aj,by decide,by decide,fun ld ds U s2 ZX mf pr=>?_⟩⟩
 have sA:=ah.trans s1 (ah.trans (ai a2 (.lst ([3,3,512,512].map V.int))) s2)
 have c2:=c1.sm (ah.trans (ai a2 (.lst ([3,3,512,512].map V.int))) s2)
 obtain⟨B,e0,b0⟩:=aM pr (k:=0) rfl
 obtain⟨G,e1,b1⟩:=aM pr (k:=1) rfl
 obtain⟨d2,e2,b2⟩:=aM pr (k:=2) rfl
 obtain⟨d3,e3,b3⟩:=aM pr (k:=3) rfl
 refine⟨_,rfl,_,_,rfl,rfl,(by show(0:Int)<2147483629;decide),_,_,rfl,rfl,.inr ⟨by decide,by decide⟩,_,_,rfl,rfl,(by show(0:Int)<2147483629;decide),(by show 2<=aaj;decide),fun lz2 UW=>⟨_,lz2,[1024,1024],rfl,aC.of aj,by decide,by decide,fun le es H3 s3 c5 oM pr3=>?_⟩⟩
 have x3:=ah.trans (ai UW (.lst ([1024,1024].map V.int))) s3
 have SD:=c2.sm x3
 have Q4:=x3 _ _ mf
 have sB:=ah.trans sA x3
 obtain⟨g0,u0,v0⟩:=aM pr3 (k:=0) rfl
 obtain⟨g1,u1,v1⟩:=aM pr3 (k:=1) rfl
 refine⟨_,rfl,_,rfl,ld,_,2,_,rfl,rfl,aC.of Q4,e2,_,rfl,D,la,_,ks.filter Po,ns,rfl,SD,fP.1,fP.2.1,fP.2.2,sB _ _ UU,Ec,GI,fun L f1 H4 s4 a3 a7=>?_⟩
 refine⟨_,rfl,_,rfl,ld,_,3,_,rfl,rfl,aC.of (s4 _ _ Q4),e3,_,rfl,D,la,_,ks.filter Po,ns,rfl,SD.sm s4,fP.1,fP.2.1,fP.2.2,s4 _ _ (sB _ _ UU),Ec,GI,fun w2 f2 H5 s5 VC b0=>?_⟩
 refine⟨(by show 2<=aaj;decide),fun l2 gW=>?_⟩
 have sC:=ah.trans s4 s5
 have x5:=ai gW (.lst [L,w2])
 have y5:=aW x5
 have UX:=x5 _ _ (sC _ _ Q4)
 have a1:=x5 _ _ (sC _ _ oM)
 have F5:Paired (Fact K (upd H5 l2 (.lst [L,w2]))) [f1,f2] [L,w2]:=.cons (a3.keep (Kp.same (H0:=H4) (ah.trans s5 x5))) (.cons (VC.keep (Kp.same (H0:=H5) x5)) .nil)
 have sD:=ah.trans (ah.trans sB sC) x5
 generalize upd H5 l2 _=H6 at x5 y5 UX a1 F5 sD ⊢
 refine⟨_,rfl,ld,_,0,_,rfl,rfl,aC.of UX,e0,_,rfl,l2,_,rfl,aC.of y5,fun J Bx=>?_⟩
 have Y9:=sD.free Bx
 rw [kC (show B<=2 by omega)]
 have x6:=ai Bx (.lst ([L,w2].take B))
 have T6:jo K (upd H6 J (.lst ([L,w2].take B))) J ([f1,f2].take B):=⟨_,aj,L2.Paired.bA (dw B F5) fun _ _ z=>z.keep (Kp.same (H0:=H6) x6)⟩
 have T6':(upd H6 J (.lst ([L,w2].take B))) J=some (.lst ([L,w2].take B)):=aj
 have UY:=x6 _ _ UX
 have X5:=x6 _ _ a1
 have sE:=ah.trans sD x6
 have tk2:([L,w2].take B).length=B:=by rw [aat];show min B 2=B;omega
 have tkF:∀f∈[f1,f2].take B,Bm (ks.filter Po) ns f:=fun f hf=>by
  have:=abT hf
  simp only [aaK,adw,or_false] at this
  rcases this with rfl|rfl
  ·exact a7
  ·exact b0
 have tkL:([f1,f2].take B).length=B:=by rw [aat];show min B 2=B;omega
 generalize [L,w2].take B=tv at T6 T6' tk2 x6 UY X5 sE ⊢
 generalize [f1,f2].take B=tk at T6 tkF tkL
 generalize upd H6 J _=H7 at T6 T6' x6 UY X5 sE ⊢
 refine⟨_,rfl,_,rfl,le,_,0,_,rfl,rfl,aC.of X5,u0,_,rfl,lk,la,_,ks,ns,rfl,zU.sm sE,by omega,by omega,fA,sE _ _ UU,Ec,GI,fun O f3 H8 s8 a4 b6=>?_⟩
 refine⟨_,rfl,_,rfl,le,_,1,_,rfl,rfl,aC.of (s8 _ _ X5),u1,_,rfl,lk,la,_,ks,ns,rfl,zU.sm (ah.trans sE s8),by omega,by omega,fA,s8 _ _ (sE _ _ UU),Ec,GI,fun Y f4 H9 s9 a5 b7=>?_⟩
 refine⟨(by show 2<=aaj;decide),fun l4 OK=>?_⟩
 have z9:=ai OK (.lst [O,Y])
 have y9:=aW z9
 have Z1:=ah.trans s8 (ah.trans s9 z9)
 have F9:Paired (Fact K (upd H9 l4 (.lst [O,Y]))) [f3,f4] [O,Y]:=.cons (a4.keep (Kp.same (H0:=H8) (ah.trans s9 z9))) (.cons (a5.keep (Kp.same (H0:=H9) z9)) .nil)
 generalize upd H9 l4 _=HA at z9 y9 F9 Z1 ⊢
 refine⟨_,rfl,ld,_,1,_,rfl,rfl,aC.of (Z1 _ _ UY),e1,_,rfl,l4,_,rfl,aC.of y9,fun l5 Gz=>?_⟩
 rw [kC (show G<=2 by omega)]
 have xB:=ai Gz (.lst ([O,Y].take G))
 have KB:jo K (upd HA l5 (.lst ([O,Y].take G))) l5 ([f3,f4].take G):=⟨_,aj,L2.Paired.bA (dw G F9) fun _ _ z=>z.keep (Kp.same (H0:=HA) xB)⟩
 have KB':(upd HA l5 (.lst ([O,Y].take G))) l5=some (.lst ([O,Y].take G)):=aj
 have kpF:∀f∈[f3,f4].take G,Bm ks ns f:=fun f hf=>by
  have:=abT hf
  simp only [aaK,adw,or_false] at this
  rcases this with rfl|rfl
  ·exact b6
  ·exact b7
 have Kz:([O,Y].take G).length=G:=by rw [aat];show min G 2=G;omega
 have kpL:([f3,f4].take G).length=G:=by rw [aat];show min G 2=G;omega
 have sF:=ah.trans Z1 xB
 generalize [O,Y].take G=kv at KB KB' Kz xB sF ⊢
 generalize [f3,f4].take G=kp at KB kpF kpL
 generalize upd HA l5 _=HC at KB KB' xB sF ⊢
 have T9:=T6.sm sF
 have T9':=sF _ _ T6'
 have sG:=ah.trans sE sF
 refine aL ?_
 dsimp only
 refine fO (Good:=fun σ' H'=>ah HC H'/\∃(Z:aay) (kq:List Fc),jo K H' Z kq/\H Z=none/\kq.length<=2/\1<=tk.length+kq.length/\(∀f∈kq,Bm ks ns f)/\σ'=[some (.ref lk),some (.int cc),some (.ref la),some (.ref D),some (.ref ld),some (.ref le),some (.ref J),some (.ref Z)]) (fun _ fin=>?_) (fun σ' H' hg=>?_)
 ·refine⟨_,rfl,J,_,rfl,.inl (aC.of T9'),_,rfl,l5,_,rfl,.inl (aC.of KB'),_,_,rfl,rfl,rfl,_,rfl,?_⟩
  rw [tk2,Kz]
  by_cases e:B+G=0
  ·have ee:decide (V.int ((B:Int)+(G:Int))=V.int 0)=true:=decide_eq_true (by rw [show((B:Int)+(G:Int))=0 by omega])
   refine(if_pos ee).mpr ?_
   refine⟨_,rfl,_,rfl,le,_,0,_,rfl,rfl,aC.of (sF _ _ X5),u0,_,rfl,lk,la,_,ks,ns,rfl,zU.sm sG,by omega,by omega,fA,sG _ _ UU,Ec,GI,fun w5 f5 HD sD5 a6 c0=>?_⟩
   refine⟨(by show 1<=aaj;decide),fun Z Lf=>?_⟩
   have z6:=ai Lf (.lst [w5])
   exact fin _ _ ⟨ah.trans sD5 z6,Z,[f5],⟨_,aj,.cons (a6.keep (Kp.same (H0:=HD) z6)) .nil⟩,(ah.trans sG sD5).free Lf,by simp,by simp,(fun f hf=>by rw [aap.mp hf];exact c0),rfl⟩
  ·have ee:decide (V.int ((B:Int)+(G:Int))=V.int 0)=false:=decide_eq_false fun z=>e (by injection z with z;omega)
   refine(if_neg (by rw [ee];decide)).mpr ?_
   exact fin _ _ ⟨ah.refl _,l5,kp,KB,(ah.trans sE Z1).free Gz,by omega,by omega,kpF,rfl⟩
 obtain⟨sH,Z,kq,Lf,fr6,Vt,Qq,Z2,rfl⟩:=hg
 refine⟨_,rfl,_,rfl,(by show 2<=aaj;decide),fun tt GA=>?_⟩
 have zt:=ai GA (.tup [V.ref J,V.ref Z])
 exact q tt J Z tk kq _ (ah.trans sG (ah.trans sH zt)) (bH.of aj) (T9.sm (ah.trans sH zt)) (Lf.sm zt) Y9 fr6 (by omega) Vt Qq tkF Z2
end
section
variable {P:abn} {w:abU} {K:aaa} {mg:Str->Option aae} {base:Heap} {f:aay} {fd:abZ} {c:Cl}
theorem jj {ns:List Cs} {v:Int} (h:1<=ns.length):∃x∈ns,r6 (ns.map tx) (v % ((ns.map tx).length:Int))=some (tx x):=by
 obtain⟨j,B,z⟩:=Iu (xs:=ns.map tx) (v:=v) (by rw [Lm9];exact h)
 have q:j<ns.length:=by simpa using B
 rw [aaO] at z
 exact⟨ns[j],aan q,z⟩
theorem gG:aB ["_law_known","_law_cell_here","_law_d","_law_looks_here"] ["_law_known","_law_cell_here"] (au lG):=⟨rfl,rfl,rfl,by decide +kernel,rfl,by decide +kernel,by decide +kernel⟩
theorem z7 (F:dz K "_law_looks" "_law_looks" lG f fd) (aS:dn P w K mg base "_law_digits" 1 ["_law_cell_here","_law_sizes"] (sZ K)) (bf:mg "len"=none):aX P w K mg base dS 2 f fd ["_law_known","_law_cell_here"] (Bs K):=by
 refine F.ok gG (fun vs H Q E h=>?_) (fun cP A outer s H vs Q E hr h=>?_)
 ·obtain⟨ln,cc,ns,rfl,_⟩:=h
  rfl
 obtain⟨ln,cc,ns,rfl,hn,Ec,GI,q⟩:=h
 refine⟨_,(ag (az (i:=2) gG.nd rfl (abi rfl) (ao aS hr.q rfl (aa (pv 1) (aa (bb (aa ae (aa ae (aa ae (aa ae (aa ae (aa ae af))))))) af))))
 (ag (az (i:=3) gG.nd rfl (abi rfl) (bb (aa (a8 (aa aP (aa (aq aw (pv 0) (aJ cF (aq aw (pv 2) ae (fun _ _=>rfl)) (aK aH rfl bf abq (aa (pv 0) af))) (fun _ _=>rfl)) (aa (aq aw (pv 0) (aJ cF (aq aw (pv 2) ae (fun _ _=>rfl)) (aK aH rfl bf abq (aa (pv 0) af))) (fun _ _=>rfl)) af)))) af)))
 (ag (aU (aE qg (aq aw (pv 2) ae (fun _ _=>rfl)) ae (aQ _))
 (ak (az (i:=3) gG.nd rfl (abi rfl) (bI cT (bb (aa (a8 (aa aP (aa (aq ax (aq aw (pv 3) ae (fun _ _=>rfl)) ae (fun _ _=>rfl)) (aa (aq ax (aq aw (pv 3) ae (fun _ _=>rfl)) ae (fun _ _=>rfl)) af)))) af)) di (bB (aq aw (pv 2) ae (fun _ _=>rfl))))))
 aF)
 (ag (aU (aE qg (aq aw (pv 2) ae (fun _ _=>rfl)) ae (aQ _))
 (ak (bp (cU aaN abm abp bz (pv 3) (aa (a8 (aa (aq ax (a8 (aa aP (aa aP af))) (aq aw (pv 2) ae (fun _ _=>rfl)) (fun _ _=>rfl)) (aa (aq aw (pv 0) (aJ cF (aq aw (pv 2) ae (fun _ _=>rfl)) (aK aH rfl bf abq (aa (pv 0) af))) (fun _ _=>rfl)) (aa (aq aw (pv 0) (aJ cF (aq aw (pv 2) ae (fun _ _=>rfl)) (aK aH rfl bf abq (aa (pv 0) af))) (fun _ _=>rfl)) af)))) af))))
 aF)
 (ak (aG (pv 3))))))),?_⟩
 try dsimp only [jZ,GP]
 refine⟨_,rfl,(by show 6<=aaj;decide),fun lz a2=>⟨cc,lz,[3,5,5,5,5,5],rfl,aC.of aj,by decide,by decide,fun ld ds H1 s1 ZX me pr=>?_⟩⟩
 have sA:=ah.trans (ai a2 (.lst ([3,5,5,5,5,5].map V.int))) s1
 obtain⟨O,e0,b0⟩:=aM pr (k:=0) rfl
 obtain⟨d1,e1,b1⟩:=aM pr (k:=1) rfl
 obtain⟨d2,e2,b2⟩:=aM pr (k:=2) rfl
 obtain⟨d3,e3,b3⟩:=aM pr (k:=3) rfl
 obtain⟨d4,e4,b4⟩:=aM pr (k:=4) rfl
 obtain⟨d5,e5,b5⟩:=aM pr (k:=5) rfl
 have OQ:(0:Int)<((ns.map tx).length:Int):=by rw [Lm9];omega
 obtain⟨x1,i1,j1⟩:=jj (ns:=ns) (v:=d1) Ec
 obtain⟨x2,i2,j2⟩:=jj (ns:=ns) (v:=d2) Ec
 obtain⟨x4,i4,j4⟩:=jj (ns:=ns) (v:=d4) Ec
 obtain⟨x5,i5,j5⟩:=jj (ns:=ns) (v:=d5) Ec
 have B:=sA _ _ hn
 refine⟨_,rfl,_,rfl,ld,_,1,_,rfl,rfl,aC.of me,e1,_,rfl,ln,_,rfl,.inl (aC.of B),_,_,rfl,rfl,OQ,ln,_,_,_,rfl,rfl,aC.of B,j1,?_⟩
 refine⟨_,rfl,_,rfl,ld,_,2,_,rfl,rfl,aC.of me,e2,_,rfl,ln,_,rfl,.inl (aC.of B),_,_,rfl,rfl,OQ,ln,_,_,_,rfl,rfl,aC.of B,j2,?_⟩
 refine⟨(by show 3<=aaj;decide),fun t1 zj=>?_⟩
 have wS:V.str (aad "same")=tx (gg true):=by decide +kernel
 have wU:V.str (aad "unlike")=tx (gg false):=by decide +kernel
 rw [wS]
 have p1:=ai zj (.tup [tx (gg true),tx x1,tx x2])
 have r1:=aW p1
 have mf:=p1 _ _ me
 have sB:=ah.trans sA p1
 generalize upd H1 t1 _=U at p1 r1 mf sB ⊢
 refine⟨(by show 1<=aaj;decide),fun l1 mj=>?_⟩
 have p2:=ai mj (.lst [V.ref t1])
 have r2:=aW p2
 have oM:=p2 _ _ mf
 have Pu:=p2 _ _ r1
 have sC:=ah.trans sB p2
 have fr1:=sB.free mj
 generalize upd U l1 _=H3 at p2 r2 oM Pu sC ⊢
 refine aL ?_
 dsimp only
 refine fO (Good:=fun σ' H'=>ah H H'/\H' ld=some (.lst (ds.map V.int))/\∃(l:aay) (vs:List V) (ks:List Lk),H' l=some (.lst vs)/\Paired (uA K H') ks vs/\H l=none/\ks.length<=1/\(∀k∈ks,k.l∈ns/\k.r∈ns)/\σ'=[some (.ref ln),some (.int cc),some (.ref ld),some (.ref l)]) (fun _ fin=>?_) (fun σ' H' hg=>?_)
 ·refine⟨_,rfl,ld,_,0,_,rfl,rfl,aC.of oM,e0,_,_,rfl,rfl,_,rfl,?_⟩
  refine dQ (fun L=>?_) (fun L=>?_)
  ·have L:(O:Int)<2:=of_decide_eq_true L
   refine⟨_,rfl,l1,_,0,_,rfl,rfl,aC.of r2,rfl,t1,_,1,_,rfl,rfl,bH.of Pu,rfl,_,rfl,l1,_,0,_,rfl,rfl,aC.of r2,rfl,t1,_,2,_,rfl,rfl,bH.of Pu,rfl,(by show 3<=aaj;decide),fun J qJ=>?_⟩
   rw [wU]
   have p3:=ai qJ (.tup [tx (gg false),tx x1,tx x2])
   have Y:=aW p3
   have zY:=p3 _ _ oM
   have sD:=ah.trans sC p3
   generalize upd H3 J _=H4 at p3 Y zY sD ⊢
   refine⟨(by show 1<=aaj;decide),fun l2 gW=>?_⟩
   have p4:=ai gW (.lst [V.ref J])
   have r4:=aW p4
   have Li:=p4 _ _ zY
   have a1:=p4 _ _ Y
   have sE:=ah.trans sD p4
   generalize upd H4 l2 _=H5 at p4 r4 Li a1 sE ⊢
   refine⟨_,rfl,ld,_,0,_,rfl,rfl,aC.of Li,e0,_,rfl,l2,_,rfl,aC.of r4,fun l3 Bx=>?_⟩
   rw [kC (show O<=1 by omega)]
   have G:=ai Bx (.lst ([V.ref J].take O))
   refine fin _ _ ⟨ah.trans sE G,G _ _ Li,l3,_,[⟨false,x1,x2⟩].take O,aj,dw O (.cons ⟨J,rfl,bH.of (G _ _ a1)⟩ .nil),sE.free Bx,?_,fun k hk=>?_,rfl⟩
   ·rw [aat];show min O 1<=1;omega
   ·rw [aap.mp (abT hk)];exact⟨i1,i2⟩
  ·exact fin _ _ ⟨sC,oM,l1,_,[⟨true,x1,x2⟩],r2,.cons ⟨t1,rfl,bH.of Pu⟩ .nil,fr1,by simp,(fun k hk=>by rw [aap.mp hk];exact⟨i1,i2⟩),rfl⟩
 obtain⟨sF,Z,l,vs,ks,hl,pl,fr,Qq,zU,rfl⟩:=hg
 refine fO (Good:=fun σ' jc=>ah H jc/\∃(ks:List Lk),Hv K jc l ks/\ks.length<=2/\(∀k∈ks,k.l∈ns/\k.r∈ns)/\σ'=[some (.ref ln),some (.int cc),some (.ref ld),some (.ref l)]) (fun _ fin=>?_) (fun σ' jc hg=>?_)
 ·refine⟨_,rfl,ld,_,3,_,rfl,rfl,aC.of Z,e3,_,_,rfl,rfl,_,rfl,?_⟩
  refine dQ (fun L=>?_) (fun L=>?_)
  ·have L:(d3:Int)<2:=of_decide_eq_true L
   have zl:=aai pl
   refine⟨_,rfl,.inl ⟨rfl,_,aC.of hl⟩,(by show 2<=aaj;decide),fun tt GA=>?_⟩
   have eW:[tx (gg true),V.str (aad "unlike")]=[tx (gg true),tx (gg false)]:=by rw [wU]
   have Y:=aj (H:=H') (a:=tt) (o:=.tup [tx (gg true),V.str (aad "unlike")])
   have p3:=ai GA (.tup [tx (gg true),V.str (aad "unlike")])
   generalize upd H' tt _=H4 at p3 Y ⊢
   rw [eW] at Y
   obtain⟨sm,e3'⟩:∃sm:Bool,r6 [tx (gg true),tx (gg false)] (d3:Int)=some (tx (gg sm)):=by
    rcases(by omega:d3=0\/d3=1) with e|e <;> subst e
    ·exact⟨true,bE rfl⟩
    ·exact⟨false,bE rfl⟩
   have zY:=p3 _ _ Z
   have OK:=p3 _ _ hl
   have sG:=ah.trans sF p3
   have VD:=sG _ _ hn
   refine⟨_,rfl,ld,_,3,_,rfl,rfl,aC.of zY,e3,tt,_,_,_,rfl,rfl,bH.of Y,e3',?_⟩
   refine⟨_,rfl,_,rfl,ld,_,4,_,rfl,rfl,aC.of zY,e4,_,rfl,ln,_,rfl,.inl (aC.of VD),_,_,rfl,rfl,OQ,ln,_,_,_,rfl,rfl,aC.of VD,j4,?_⟩
   refine⟨_,rfl,_,rfl,ld,_,5,_,rfl,rfl,aC.of zY,e5,_,rfl,ln,_,rfl,.inl (aC.of VD),_,_,rfl,rfl,OQ,ln,_,_,_,rfl,rfl,aC.of VD,j5,?_⟩
   refine⟨(by show 3<=aaj;decide),fun J qJ=>?_⟩
   have G:=ai qJ (.tup [tx (gg sm),tx x4,tx x5])
   have r5:=aW G
   have Gz:=G _ _ OK
   have sH:=ah.trans sG G
   have pl5:Paired (uA K (upd H4 J (.tup [tx (gg sm),tx x4,tx x5]))) ks vs:=L2.Paired.bA pl fun _ _ z=>z.sm (ah.trans p3 G)
   generalize upd H4 J _=H5 at G r5 Gz sH pl5 ⊢
   refine⟨l,_,_,rfl,rfl,Gz,(by rw [aaz];omega),?_⟩
   refine fin _ _ ⟨ah.ba sH fr _,ks++[⟨sm,x4,x5⟩],⟨_,aj,bx (L2.Paired.bA pl5 fun _ _ ⟨t,e,z⟩=>⟨t,e,cu Gz z⟩) (.cons ⟨J,rfl,cu Gz (bH.of r5)⟩ .nil)⟩,?_,fun k hk=>?_,rfl⟩
   ·rw [aab];show _+1<=2;omega
   ·rcases aaq.mp hk with z|z
    ·exact zU k z
    ·rw [aap.mp z];exact⟨i4,i5⟩
  ·exact fin _ _ ⟨sF,ks,⟨_,hl,pl⟩,by omega,zU,rfl⟩
 obtain⟨sI,Fo,hX,h2,adE,rfl⟩:=hg
 exact⟨_,rfl,q l Fo jc sI fr hX h2 adE⟩
end
section
variable {P:abn} {w:abU} {K:aaa} {mg:Str->Option aae} {base:Heap} {f:aay} {fd:abZ} {c:Cl}
theorem Bm.mono {ks:List Kd} {as bs:List Cs} {g:Fc} (h:Bm ks as g) (hs:∀a∈as,a∈bs):Bm ks bs g:=⟨h.1,fun a ha=>hs a (h.2 a ha)⟩
theorem cI:aB ["_law_kinds_here","_law_one","_law_two","_law_args","_law_words","_law_heads_here","_law_known","_law_d","_law_given","_law_looks_here","_law_told"] ["_law_kinds_here","_law_one","_law_two","_law_args","_law_words"] (au m8):=⟨rfl,rfl,rfl,by decide +kernel,rfl,by decide +kernel,by decide +kernel⟩
theorem Df (F:dz K "_law_rule" "_law_rule" m8 f fd) (lS:dn P w K mg base "_law_heads" 2 ["_law_kinds_here","_law_cell_here","_law_args"] (Br K)) (eD:dn P w K mg base "_law_names" 1 ["_law_facts"] (tf K)) (aS:dn P w K mg base "_law_digits" 1 ["_law_cell_here","_law_sizes"] (sZ K)) (bt:dn P w K mg base "_law_drawn" 1 ["_law_kinds_here","_law_number","_law_args"] (vI K))
  (lT:dn P w K mg base "_law_looks" 2 ["_law_known","_law_cell_here"] (Bs K)) (bf:mg "len"=none):aX P w K mg base dS 3 f fd ["_law_kinds_here","_law_one","_law_two","_law_args","_law_words"] (Ft K):=by
 refine F.ok cI (fun vs H Q E h=>?_) (fun cP A outer s H vs Q E hr h=>?_)
 ·obtain⟨lk,la,lw,c1,c2,ks,as,os,ws,rfl,_⟩:=h
  rfl
 obtain⟨lk,la,lw,c1,c2,ks,as,os,ws,rfl,zU,hG,UU,cQ7,ZI,a1,c6,d1,d2,Ko,hN,q⟩:=h
 refine⟨_,(ag (az (i:=5) cI.nd rfl (abi rfl) (ao lS hr.q rfl (aa (pv 0) (aa (pv 1) (aa (pv 3) af)))))
 (ag (az (i:=6) cI.nd rfl (abi rfl) (aJ cZ (ao eD hr.q rfl (aa (aJ cZ (aq ax (pv 5) ae (fun _ _=>rfl)) (aq ax (pv 5) ae (fun _ _=>rfl))) af)) (pv 4)))
 (ag (aU (aE du (aK aH rfl bf abq (aa (aq ax (pv 5) ae (fun _ _=>rfl)) af)) ae (aQ _))
 (ak (eZ (i:=0) [] cI.nd rfl (abi rfl) rfl (by kernel_rfl) (aN (pv 0)) (fun _ _ _ _ _=>(gA (bU (aq (r:=gh K) ax (pv 0) ae (fun _ _=>rfl))))) (fun _ _ _ _ _=>(pv 0))))
 aF)
 (ag (az (i:=7) cI.nd rfl (abi rfl) (ao aS hr.q rfl (aa (pv 2) (aa (bb (aa ae (aa ae (aa ae af)))) af))))
 (ag (az (i:=8) cI.nd rfl (abi rfl) (bI cT (bb (aa (ao bt hr.q rfl (aa (pv 0) (aa (aq aw (pv 7) ae (fun _ _=>rfl)) (aa (pv 6) af)))) (aa (ao bt hr.q rfl (aa (pv 0) (aa (aq aw (pv 7) ae (fun _ _=>rfl)) (aa (pv 6) af)))) af))) di (bB (aq aw (pv 7) ae (fun _ _=>rfl)))))
 (ag (az (i:=9) cI.nd rfl (abi rfl) (ao lT hr.q rfl (aa (pv 6) (aa (aJ cF (aJ BS (aJ cF (pv 2) ae) ae) ae) af))))
 (ag (az (i:=7) cI.nd rfl (abi rfl) (ao aS hr.q rfl (aa (aJ cF (aJ BS (aJ cF (pv 2) ae) ae) ae) (aa (bb (aa ae (aa ae (aa ae (aa ae (aa ae (aa ae af))))))) af))))
 (ag (az (i:=10) cI.nd rfl (abi rfl) (bI cT (bb (aa (a8 (aa (aq aw (pv 6) (aJ cF (aq aw (pv 7) ae (fun _ _=>rfl)) (aK aH rfl bf abq (aa (pv 6) af))) (fun _ _=>rfl)) (aa (aq aw (pv 6) (aJ cF (aq aw (pv 7) ae (fun _ _=>rfl)) (aK aH rfl bf abq (aa (pv 6) af))) (fun _ _=>rfl)) af))) af)) di (bB (aq aw (pv 7) ae (fun _ _=>rfl)))))
 (ag (aU (aE du (aq aw (pv 7) ae (fun _ _=>rfl)) ae (aQ _))
 (ak (bp (cU aaN abm abp bz (pv 10) (aa (a8 (aa (aq aw (pv 6) (aJ cF (aq aw (pv 7) ae (fun _ _=>rfl)) (aK aH rfl bf abq (aa (pv 6) af))) (fun _ _=>rfl)) (aa (aq aw (pv 6) (aJ cF (aq aw (pv 7) ae (fun _ _=>rfl)) (aK aH rfl bf abq (aa (pv 6) af))) (fun _ _=>rfl)) af))) af))))
 aF)
 (ak (aG (a8 (aa (aq ax (pv 5) ae (fun _ _=>rfl)) (aa (aq ax (pv 5) ae (fun _ _=>rfl)) (aa (pv 9) (aa (pv 8) (aa (pv 10) af))))))))))))))))),?_⟩
 try dsimp only [jZ,GP]
 refine hid9 fun _ Yh=>?_
 have c9:=hG.len
 refine⟨_,rfl,_,rfl,_,rfl,lk,la,c1,ks,as,rfl,zU,hG,UU,cQ7,by omega,fun t a b tk kp H1 s1 ht hA hB frA frB qJ Vt h1 a5 Z2=>?_⟩
 refine Yh _ _ ?_
 try dsimp only
 refine hid9 fun _ Yh=>?_
 obtain⟨av,SI,pa⟩:=id hA
 obtain⟨bv,UZ,pb⟩:=id hB
 have za:=aai pa
 have zb:=aai pb
 refine⟨_,rfl,t,_,0,_,rfl,rfl,ht,rfl,_,rfl,t,_,1,_,rfl,rfl,ht,rfl,a,b,_,_,rfl,rfl,SI,UZ,(by rw [aaz];omega),fun l1 mj=>?_⟩
 have p1:=ai mj (.lst (av++bv))
 have r1:=aW p1
 have fC:∀f∈tk++kp,f.as.length<=4/\∀x∈f.as,uY x:=fun f L=>by
  have key:∀{Fo:List Kd},(∀k∈Fo,k∈ks)->Bm Fo as f->f.as.length<=4/\∀x∈f.as,uY x:=fun {Fo} hs h=>by
   obtain⟨⟨k,hk,_,e⟩,h2⟩:=h
   have:=(hG.ok k (hs k hk)).2
   exact⟨by omega,fun x hx=>hN x (a1 x (h2 x hx))⟩
  rcases aaq.mp L with z|z
  ·exact key (fun k hk=>(ab1.mp hk).1) (a5 f z)
  ·exact key (fun k hk=>hk) (Z2 f z)
 have h4:(tk++kp).length<=4:=by rw [aab];omega
 refine⟨l1,tk++kp,rfl,⟨_,r1,L2.Paired.bA (bx pa pb) fun _ _ z=>z.keep (Kp.same (H0:=H1) p1)⟩,by omega,fC,fun l2 U s2 gW hO=>?_⟩
 have sA:=ah.trans s1 (ah.trans p1 s2)
 have c8:=ah.trans p1 s2
 have hz:(opens (tk++kp)).length<=32:=Hm (fun g hg=>(fC g hg).1) (by omega) (FP _)
 refine⟨_,rfl,l2,lw,_,_,rfl,rfl,hO,sA _ _ c6,(by rw [Lm9,Lm9,aaz];omega),fun B Bx=>?_⟩
 rw [<- aau]
 have p3:=ai Bx (.lst ((opens (tk++kp)++ws).map tx))
 have hK:=aW p3
 have sB:=ah.trans sA p3
 have Z3:=ah.trans c8 p3
 generalize upd U B _=H3 at p3 hK sB Z3 ⊢
 have Iv:1<=(opens (tk++kp)++ws).length:=by rw [aab];omega
 have U0:(opens (tk++kp)++ws).length<=100:=by rw [aab];omega
 refine Yh _ _ ?_
 try dsimp only
 refine fO (Good:=fun σ' H'=>ah H3 H'/\∃(lq:aay) (kq:List Kd),pL K H' lq kq/\1<=kq.length/\kq.length<=100/\(∀k∈kq,k.c<=4)/\kq=(if tk=[] then ks.filter (·.l) else ks)/\σ'=[some (.ref lq),some (.int c1),some (.int c2),some (.ref la),some (.ref lw),some (.ref t),some (.ref B),none,none,none,none]) (fun _ fin=>?_) (fun σ' H' hg=>?_)
 ·refine⟨_,rfl,t,_,0,_,rfl,rfl,ht.same Z3,rfl,a,_,rfl,.inl (aC.of (Z3 _ _ SI)),rfl,_,rfl,?_⟩
  by_cases e:tk=[]
  ·have e0:av.length=0:=by rw [<- za,e];rfl
   rw [e0]
   refine dP ?_
   obtain⟨kvs,hk,pk⟩:=id (zU.sm sB)
   have zk:=aai pk
   refine⟨_,rfl,lk,rfl,⟨_,aC.of hk⟩,fun D hD=>?_⟩
   refine ef (K:=K) (xs:=kvs) ks (·.l) id (fun _ H f y=>Kind K H f y) (fun _ _ _ _ _ k h=>Kind.keep k h) (fun _ _ _ _ _ _ h=>h) (jg (by omega)) hD (aC.of hk) zk (fun i x b H' R hx hb sm hQ=>?_) (fun i x b H' R hx hb Z0 sm hQ=>?_) (fun H4 ys4 s4 zY X6=>?_)
   ·obtain⟨hi,ex⟩:=aA hx
    obtain⟨cH,eb⟩:=aA hb
    have JW:=paired_at pk i cH hi
    rw [ex,eb] at JW
    obtain⟨t,rfl,ht⟩:=JW
    exact⟨_,rfl,t,_,2,_,rfl,rfl,ht.same sm,rfl,_,rfl,hQ _ (ah.refl _)⟩
   ·obtain⟨hi,ex⟩:=aA hx
    obtain⟨cH,eb⟩:=aA hb
    have JW:=paired_at pk i cH hi
    rw [ex,eb] at JW
    exact⟨_,rfl,hQ _ _ (ah.refl _) (Kind.sm sm JW)⟩
   rw [aep] at X6
   obtain⟨k,c3,ek⟩:=hG.yes
   have z:k∈ks.filter (·.l):=ab1.mpr ⟨c3,ek⟩
   have z1:1<=(ks.filter (·.l)).length:=by
    cases e:ks.filter (·.l) with
    | nil=>rw [e] at z;cases z
    | cons a r=>simp
   have z2:(ks.filter (·.l)).length<=ks.length:=acw _ _
   exact fin _ _ ⟨s4,D,ks.filter (·.l),⟨_,zY,X6⟩,z1,by omega,(fun k hk=>(hG.ok k (ab1.mp hk).1).2),by rw [if_pos e],rfl⟩
  ·have e0:decide (V.int (av.length:Int)=V.int 0)=false:=decide_eq_false fun z=>e (by
    injection z with z
    exact adx (by omega))
   refine(if_neg (by rw [e0];decide)).mpr ?_
   exact fin _ _ ⟨ah.refl _,lk,ks,zU.sm sB,by omega,by omega,(fun k hk=>(hG.ok k hk).2),by rw [if_neg e],rfl⟩
 obtain⟨s4,lq,kq,a3,kq1,kq2,kq4,ekq,rfl⟩:=hg
 have sC:=ah.trans sB s4
 have a7:=s4 _ _ hK
 refine⟨_,rfl,(by show 3<=aaj;decide),fun lz c7=>⟨c2,lz,[3,2500,2500],rfl,aC.of aj,by decide,by decide,fun ld ds H5 s5 ZX Li pr=>?_⟩⟩
 have x5:=ah.trans (ai c7 (.lst ([3,2500,2500].map V.int))) s5
 obtain⟨G,e0,b0⟩:=aM pr (k:=0) rfl
 obtain⟨d1,e1,b1⟩:=aM pr (k:=1) rfl
 obtain⟨d2,e2,b2⟩:=aM pr (k:=2) rfl
 have Z:=x5 _ _ a7
 refine⟨_,rfl,_,rfl,ld,_,1,_,rfl,rfl,aC.of Li,e1,_,rfl,lq,B,_,kq,_,rfl,a3.sm x5,kq1,kq2,kq4,Z,Iv,U0,fun w1 f1 H6 s6 a6 b7=>?_⟩
 refine⟨_,rfl,_,rfl,ld,_,2,_,rfl,rfl,aC.of (s6 _ _ Li),e2,_,rfl,lq,B,_,kq,_,rfl,a3.sm (ah.trans x5 s6),kq1,kq2,kq4,s6 _ _ Z,Iv,U0,fun w2 f2 H7 s7 VC c0=>?_⟩
 refine⟨(by show 2<=aaj;decide),fun l4 OK=>?_⟩
 have x7:=ai OK (.lst [w1,w2])
 have r7:=aW x7
 have F7:Paired (Fact K (upd H7 l4 (.lst [w1,w2]))) [f1,f2] [w1,w2]:=.cons (a6.keep (Kp.same (H0:=H6) (ah.trans s7 x7))) (.cons (VC.keep (Kp.same (H0:=H7) x7)) .nil)
 have Z4:=ah.trans s6 (ah.trans s7 x7)
 generalize upd H7 l4 _=H8 at x7 r7 F7 Z4 ⊢
 refine⟨_,rfl,ld,_,0,_,rfl,rfl,aC.of (Z4 _ _ Li),e0,_,rfl,l4,_,rfl,aC.of r7,fun l5 Gz=>?_⟩
 have V8:=(ah.trans sC (ah.trans x5 Z4)).free Gz
 rw [kC (show G<=2 by omega)]
 have x8:=ai Gz (.lst ([w1,w2].take G))
 have G8:jo K (upd H8 l5 (.lst ([w1,w2].take G))) l5 ([f1,f2].take G):=⟨_,aj,L2.Paired.bA (dw G F7) fun _ _ z=>z.keep (Kp.same (H0:=H8) x8)⟩
 have gvF:∀f∈[f1,f2].take G,Bm kq (opens (tk++kp)++ws) f:=fun f L=>by
  have:=abT L
  simp only [aaK,adw,or_false] at this
  rcases this with rfl|rfl
  ·exact b7
  ·exact c0
 have gvL:([f1,f2].take G).length<=2:=by rw [aat];show min G 2<=2;omega
 have Z5:=ah.trans Z4 x8
 generalize [f1,f2].take G=gv at G8 gvF gvL
 generalize upd H8 l5 _=H9 at G8 x8 Z5 ⊢
 have sD:=ah.trans sC (ah.trans x5 Z5)
 have a2:=Z5 _ _ Z
 refine⟨_,rfl,_,rfl,_,_,rfl,rfl,(by show(0:Int)<2147483629;decide),_,_,rfl,rfl,.inr ⟨by decide,by decide⟩,_,_,rfl,rfl,(by show(0:Int)<2147483629;decide),B,_,_,rfl,a2,Iv,U0,fun l6 lks HA sA6 Lf b6 a4 c5=>?_⟩
 have sE:=ah.trans sD sA6
 have fr6:H l6=none:=sD.free Lf
 have ml:∀{x lr:aay} {o:HO},H lr=some o->H x=none->x≠lr:=fun {x lr o} h1 h2 e=>by rw [e,h1] at h2;cases h2
 have b0:=sA6 _ _ a2
 refine aL ?_
 dsimp only
 refine hid9 fun _ n9=>?_
 refine⟨_,rfl,_,_,rfl,rfl,(by show(0:Int)<2147483629;decide),_,_,rfl,rfl,.inr ⟨by decide,by decide⟩,_,_,rfl,rfl,(by show(0:Int)<2147483629;decide),(by show 6<=aaj;decide),fun lz2 UW=>⟨_,lz2,[2,5,5,3,5,5],rfl,aC.of aj,by decide,by decide,fun le es HB sB6 d0 Z6 VE=>?_⟩⟩
 have xB:=ah.trans (ai UW (.lst ([2,5,5,3,5,5].map V.int))) sB6
 obtain⟨J,u0,v0⟩:=aM VE (k:=0) rfl
 obtain⟨g1,u1,v1⟩:=aM VE (k:=1) rfl
 obtain⟨g2,u2,v2⟩:=aM VE (k:=2) rfl
 obtain⟨g3,u3,v3⟩:=aM VE (k:=3) rfl
 obtain⟨g4,u4,v4⟩:=aM VE (k:=4) rfl
 obtain⟨g5,u5,v5⟩:=aM VE (k:=5) rfl
 have sF:=ah.trans sE xB
 have X7:=xB _ _ b0
 have OQ:(0:Int)<(((opens (tk++kp)++ws).map tx).length:Int):=by rw [Lm9];omega
 obtain⟨y1,i1,j1⟩:=jj (ns:=opens (tk++kp)++ws) (v:=g1) Iv
 obtain⟨y2,i2,j2⟩:=jj (ns:=opens (tk++kp)++ws) (v:=g2) Iv
 obtain⟨y4,i4,j4⟩:=jj (ns:=opens (tk++kp)++ws) (v:=g4) Iv
 obtain⟨y5,i5,j5⟩:=jj (ns:=opens (tk++kp)++ws) (v:=g5) Iv
 refine n9 _ _ ?_
 try dsimp only
 refine hid9 fun _ n9=>?_
 refine⟨_,rfl,_,rfl,le,_,1,_,rfl,rfl,aC.of Z6,u1,_,rfl,B,_,rfl,.inl (aC.of X7),_,_,rfl,rfl,OQ,B,_,_,_,rfl,rfl,aC.of X7,j1,?_⟩
 refine⟨_,rfl,_,rfl,le,_,2,_,rfl,rfl,aC.of Z6,u2,_,rfl,B,_,rfl,.inl (aC.of X7),_,_,rfl,rfl,OQ,B,_,_,_,rfl,rfl,aC.of X7,j2,?_⟩
 refine⟨(by show 2<=aaj;decide),fun t1 zj=>?_⟩
 have xC:=ai zj (.tup [tx y1,tx y2])
 have rC:=aW xC
 generalize upd HB t1 _=HC at xC rC ⊢
 refine⟨(by show 1<=aaj;decide),fun l7 c4=>?_⟩
 have xD:=ai c4 (.lst [V.ref t1])
 have rD:=aW xD
 have rCD:=xD _ _ rC
 have VF:=ah.trans xC xD
 generalize upd HC l7 _=HD at xD rD rCD VF ⊢
 refine⟨_,rfl,le,_,0,_,rfl,rfl,aC.of (VF _ _ Z6),u0,_,rfl,l7,_,rfl,aC.of rD,fun Y X8=>?_⟩
 rw [kC (show J<=1 by omega)]
 have xE:=ai X8 (.lst ([V.ref t1].take J))
 have Z7:Cp K (upd HD Y (.lst ([V.ref t1].take J))) Y ([(y1,y2)].take J):=⟨_,aj,dw J (.cons ⟨t1,rfl,bH.of (xE _ _ rCD)⟩ .nil)⟩
 have Z8:=ah.trans VF xE
 have sG:=ah.trans sF Z8
 have fr8:=(ah.trans sF VF).free X8
 have tl1:([(y1,y2)].take J).length<=1:=by rw [aat];show min J 1<=1;omega
 have tlN:∀p∈[(y1,y2)].take J,p.1∈opens (tk++kp)++ws/\p.2∈opens (tk++kp)++ws:=fun p hp=>by
  rw [aap.mp (abT hp)]
  exact⟨i1,i2⟩
 generalize [(y1,y2)].take J=tl at Z7 tl1 tlN
 generalize upd HD Y _=HE at Z7 xE Z8 sG ⊢
 refine n9 _ _ ?_
 try dsimp only
 have VG:=Z8 _ _ Z6
 have Z9:=Z8 _ _ X7
 refine fO (Good:=fun σ' H'=>ah H H'/\ah H1 H'/\ah H9 H'/\ah HA H'/\∃tl:List (Cs × Cs),Cp K H' Y tl/\tl.length<=2/\(∀p∈tl,p.1∈opens (tk++kp)++ws/\p.2∈opens (tk++kp)++ws)/\σ'=[some (.ref lq),some (.int c1),some (.int c2),some (.ref la),some (.ref lw),some (.ref t),some (.ref B),some (.ref le),some (.ref l5),some (.ref l6),some (.ref Y)]) (fun _ fin=>?_) (fun σ' H' hg=>?_)
 ·refine⟨_,rfl,le,_,3,_,rfl,rfl,aC.of VG,u3,rfl,_,rfl,?_⟩
  have yAD:=ah.trans xB VF
  have y9D:=ah.trans sA6 yAD
  have y1D:=ah.trans Z3 (ah.trans s4 (ah.trans x5 (ah.trans Z5 y9D)))
  refine dQ (fun _=>?_) (fun _=>?_)
  ·obtain⟨tv,hv,pv'⟩:=id Z7
   have zv:=aai pv'
   refine⟨_,rfl,.inl ⟨rfl,_,aC.of hv⟩,?_⟩
   refine⟨_,rfl,_,rfl,le,_,4,_,rfl,rfl,aC.of VG,u4,_,rfl,B,_,rfl,.inl (aC.of Z9),_,_,rfl,rfl,OQ,B,_,_,_,rfl,rfl,aC.of Z9,j4,?_⟩
   refine⟨_,rfl,_,rfl,le,_,5,_,rfl,rfl,aC.of VG,u5,_,rfl,B,_,rfl,.inl (aC.of Z9),_,_,rfl,rfl,OQ,B,_,_,_,rfl,rfl,aC.of Z9,j5,?_⟩
   refine⟨(by show 2<=aaj;decide),fun t2 qJ=>?_⟩
   have xF:=ai qJ (.tup [tx y4,tx y5])
   have rF:=aW xF
   have O:=xF _ _ hv
   have pvF:Paired (Pair K (upd HE t2 (.tup [tx y4,tx y5]))) tl tv:=L2.Paired.bA pv' fun _ _ ⟨t,e,z⟩=>⟨t,e,z.same xF⟩
   have X9:=ah.trans xE xF
   generalize upd HE t2 _=HF at xF rF O pvF X9 ⊢
   refine⟨Y,_,_,rfl,rfl,O,(by rw [aaz];omega),?_⟩
   refine fin _ _ ⟨ah.ba (ah.trans (ah.trans sF VF) X9) fr8 _,ah.ba (ah.trans y1D X9) (y1D.free X8) _,ah.ba (ah.trans y9D X9) (y9D.free X8) _,ah.ba (ah.trans yAD X9) (yAD.free X8) _,tl++[(y4,y5)],⟨_,aj,bx (L2.Paired.bA pvF fun _ _ ⟨t,e,z⟩=>⟨t,e,cu O z⟩) (.cons ⟨t2,rfl,cu O (bH.of rF)⟩ .nil)⟩,?_,fun p hp=>?_,rfl⟩
   ·rw [aab];show _+1<=2;omega
   ·rcases aaq.mp hp with z|z
    ·exact tlN p z
    ·rw [aap.mp z];exact⟨i4,i5⟩
  ·exact fin _ _ ⟨sG,ah.trans y1D xE,ah.trans y9D xE,ah.trans yAD xE,tl,Z7,by omega,tlN,rfl⟩
 obtain⟨sH,s1H,s9H,sAH,tq,c1,tq2,tqN,rfl⟩:=hg
 refine⟨_,rfl,t,_,0,_,rfl,rfl,ht.same s1H,rfl,_,rfl,t,_,1,_,rfl,rfl,ht.same s1H,rfl,_,rfl,_,rfl,_,rfl,(by show 5<=aaj;decide),fun tt GA=>?_⟩
 have zt:=ai GA (.tup [V.ref a,V.ref b,V.ref l6,V.ref l5,V.ref Y])
 refine q (.ref tt) ⟨[],tk,kp,lks,gv,tq⟩ _ (ah.trans sH zt) (fun lr o sg=>⟨tt,a,b,l6,l5,Y,rfl,bH.of aj,hA.sm (ah.trans s1H zt),hB.sm (ah.trans s1H zt),b6.sm (ah.trans sAH zt),G8.sm (ah.trans s9H zt),c1.sm zt,ml sg frA,ml sg frB,ml sg fr6,ml sg V8,ml sg fr8⟩) ⟨fun f L=>Bm.mono (a5 f L) a1,fun f L=>Bm.mono (Z2 f L) a1,fun f L=>?_,c5,tqN,h1,?_⟩ ⟨qJ,Vt,a4,gvL,tq2⟩
 ·have z:=gvF f L
  rw [ekq] at z
  exact z
 ·show tk.length<=4/\kp.length<=4/\lks.length<=4/\gv.length<=4/\tq.length<=4
  omega
end
section
variable {P:abn} {w:abU} {K:aaa} {mg:Str->Option aae} {base:Heap} {f:aay} {fd:abZ} {c:Cl}
theorem pY {te:TE} {bo:List Nat} {σ:St} {H1:Hp} {Q:VK} {a D:aay} {fs:List Fc} (Y:jo K H1 a fs) (hn:fs.length<=100) (J:H1 D=none)
  (V:∀x g H' R,Fact K H' g x->g∈fs->ah H1 H'->(∀jc,ah H' jc->R (tx (bJ g)) jc)->te (cQ σ (some x) bo) H' R)
  (hd:∀H',ah H1 H'->H' D=some (.lst ((fs.map bJ).map tx))->Q (.ref D) H'):lY GX te bo σ Q (Mj K a) H1 D:=by
 obtain⟨vs,Z,pv⟩:=Y
 have z:=aai pv
 refine cq (K:=K) (xs:=vs) (fs.map bJ) (fun _ _ b y=>y=tx b) (fun _ _ _ _ _ _ h=>h) (fun _ _ _ _ _ _ h=>h) (jg (by omega)) J (aC.of Z) (by rw [Lm9];exact z) (fun i y b H' R hy O sm L=>?_) (fun H9 ys s9 F po=>?_)
 ·obtain⟨hi,G⟩:=aA hy
  obtain⟨cH,q⟩:=aA O
  rw [Lm9] at cH
  rw [aaO] at q
  have B:=paired_at pv i cH hi
  rw [G] at B
  exact V y fs[i] H' R (B.keep (Kp.same (H0:=H1) sm)) (aan cH) sm fun jc vR=>L _ _ vR (by rw [<- q])
 ·rw [dJ po] at F
  exact hd H9 s9 F
theorem bO:aB ["_law_kinds_here","_law_rules","_law_lines","_law_kind","_law_word","_law_number","_law_rule_here","_law_parts"] ["_law_kinds_here","_law_rules"] (au nh):=⟨rfl,rfl,rfl,by decide +kernel,rfl,by decide +kernel,by decide +kernel⟩
theorem Dg (F:dz K "_law_text" "_law_text" nh f fd) (gU:dn P w K mg base "_law_fact" 1 ["_law_fact_here"] (Ol K)) (dZ:dn P w K mg base "_law_part" 1 ["_law_word","_law_members"] Fu) (SJ:mg "str"=none) (FQ:mg "enumerate"=none):aX P w K mg base dS 2 f fd ["_law_kinds_here","_law_rules"] (Fv K):=by
 refine F.ok bO (fun vs H Q E h=>?_) (fun cP A outer s H vs Q E hr h=>?_)
 ·obtain⟨lk,lr,ks,rs,rfl,_⟩:=h
  rfl
 obtain⟨lk,lr,ks,rs,rfl,⟨kvs,hk,pk⟩,hG,⟨oB,c0,pr⟩,QW,hT,VC,q⟩:=h
 have zk:=aai pk
 have zr:=aai pr
 have d1:=hG.len
 refine⟨_,(ag (az (i:=2) bO.nd rfl (abi rfl) (bb af))
 (ag (cB abB rfl (aN (pv 0)) (bj (i:=3) bO.nd rfl (abi rfl))
 (ag (az (i:=4) bO.nd rfl (abi rfl) aP)
 (ag (aU (bU (aq ax (pv 3) ae (fun _ _=>rfl)))
 (ak (az (i:=4) bO.nd rfl (abi rfl) aP))
 aF)
 (ak (bp (cU aaN abm abp bz (pv 2) (aa (aJ bc (aJ bc (aJ bc (pv 4) (aq ax (pv 3) ae (fun _ _=>rfl))) aP) (cy qh rfl SJ PyProof.Rows.Boot.«str» (aa (aq ax (pv 3) ae (fun _ _=>rfl)) af))) af)))))))
 (ag (cB abB rfl (Qr (pv 1) rfl FQ PyProof.Rows.boot_enumerate) (ME rfl (jI (bj (i:=5) bO.nd rfl (abi rfl)) (jI (bj (i:=6) bO.nd rfl (abi rfl)) IX)))
 (ag (az (i:=7) bO.nd rfl (abi rfl) (ao dZ hr.q rfl (aa aP (aa (bW [] rfl (by kernel_rfl) (aN (aq ax (pv 6) ae (fun _ _=>rfl))) (fun _ _ _ _ _=>bL) (fun _ _ _ _ _=>(ao gU hr.q rfl (aa (pv 0) af)))) af))))
 (ag (az (i:=7) bO.nd rfl (abi rfl) (aJ cZ (pv 7) (ao dZ hr.q rfl (aa aP (aa (bW [] rfl (by kernel_rfl) (aN (aq ax (pv 6) ae (fun _ _=>rfl))) (fun _ _ _ _ _=>bL) (fun _ _ _ _ _=>(ao gU hr.q rfl (aa (pv 0) af)))) af)))))
 (ag (az (i:=7) bO.nd rfl (abi rfl) (aJ cZ (pv 7) (ao dZ hr.q rfl (aa aP (aa (bW [] rfl (by kernel_rfl) (aN (aq ax (pv 6) ae (fun _ _=>rfl))) (fun _ _ _ _ _=>bL) (fun _ _ _ _ _=>(aJ bc (aJ bc (aJ bc (aJ bc (aq (r:=gh K) ax (pv 0) ae (fun _ _=>rfl)) aP) (aq (r:=gh K) ax (pv 0) ae (fun _ _=>rfl))) aP) (aq (r:=gh K) ax (pv 0) ae (fun _ _=>rfl))))) af)))))
 (ag (az (i:=7) bO.nd rfl (abi rfl) (aJ cZ (pv 7) (ao dZ hr.q rfl (aa aP (aa (bW [] rfl (by kernel_rfl) (aN (aq ax (pv 6) ae (fun _ _=>rfl))) (fun _ _ _ _ _=>bL) (fun _ _ _ _ _=>(ao gU hr.q rfl (aa (pv 0) af)))) af)))))
 (ag (az (i:=7) bO.nd rfl (abi rfl) (aJ cZ (pv 7) (ao dZ hr.q rfl (aa aP (aa (bW [] rfl (by kernel_rfl) (aN (aq ax (pv 6) ae (fun _ _=>rfl))) (fun _ _ _ _ _=>bL) (fun _ _ _ _ _=>(aJ bc (aJ bc (aq (r:=gh K) ax (pv 0) ae (fun _ _=>rfl)) aP) (aq (r:=gh K) ax (pv 0) ae (fun _ _=>rfl))))) af)))))
 (ak (bp (cU aaN abm abp bz (pv 2) (aa (aJ bc (aJ bc (aJ bc aP (cy qh rfl SJ PyProof.Rows.Boot.«str» (aa (pv 5) af))) aP) (cU adb aes aet vw aP (aa (pv 7) af))) af))))))))))
 (ak (aG (cU adb aes aet vw aP (aa (pv 2) af))))))),?_⟩
 try dsimp only [jZ,GP]
 refine⟨(by show 0<=aaj;decide),fun LL Ya=>?_⟩
 have s1:=ai Ya (.lst [])
 refine aL ?_
 dsimp only
 refine⟨_,rfl,lk,rfl,⟨_,aC.of (s1 _ _ hk)⟩,?_⟩
 refine bR (K:=K) (a:=lk) (xs:=kvs) (fun i σ H'=>ah H H'/\H' LL=some (.lst (((ks.take i).map aZ).map tx))/\∃o4 o5,σ=[some (.ref lk),some (.ref lr),some (.ref LL),o4,o5,none,none,none]) ⟨s1,aj,none,none,rfl⟩ (fun i σ H' _ ⟨sm,_⟩=>aC.of (sm _ _ hk)) ?_ ?_
 ·rintro i y σ H' hi ⟨sm,hL,o4,o5,rfl⟩
  obtain⟨UI,L⟩:=aA hi
  have Y:i<ks.length:=by omega
  have JW:=paired_at pk i Y UI
  rw [L] at JW
  obtain⟨t,rfl,Z⟩:=JW
  have Z:=Z.same sm
  have hok:=hG.ok _ (aan Y)
  have d4:=(fh hok.1).2
  have hc:=hok.2
  refine aL ?_
  dsimp only
  refine KO ?_
  have eP:V.str (aad "passing ")=tx (bF++[32]):=by decide +kernel
  have eL:V.str (aad "lasting ")=tx (bG++[32]):=by decide +kernel
  rw [eP,eL]
  refine fO (Good:=fun σ' jc=>jc=H'/\σ'=[some (.ref lk),some (.ref lr),some (.ref LL),some (.ref t),some (tx ((if ks[i].l=true then bG else bF)++[32])),none,none,none]) (fun _ fin=>?_) (fun σ' jc B=>?_)
  ·refine⟨_,rfl,t,_,2,_,rfl,rfl,Z,rfl,_,rfl,?_⟩
   cases hl:ks[i].l with
   | true=>exact dP (fin _ _ ⟨rfl,by rw [hl,if_pos rfl];rfl⟩)
   | false=>exact bw (fin _ _ ⟨rfl,by rw [hl,if_neg (by decide)];rfl⟩)
  obtain⟨rfl,rfl⟩:=B
  have UE:((if ks[i].l=true then bG else bF)++[32]).length=8:=by cases ks[i].l <;> rfl
  have e0:(aad " ")=S [32]:=by decide +kernel
  have e1:(aad " ").length=1:=by decide +kernel
  refine⟨_,rfl,.inl ⟨rfl,_,aC.of hL⟩,_,rfl,_,rfl,t,_,0,_,rfl,rfl,Z,rfl,_,_,rfl,rfl,(by rw [aY,aY,UE,aaz];omega),?_⟩
  refine⟨_,_,rfl,rfl,(by simp only [strLen_append,aY,e1,UE];rw [aaz];omega),?_⟩
  refine⟨_,rfl,t,_,1,_,rfl,rfl,Z,rfl,_,rfl,JD hc,?_⟩
  rw [JC hc,e0,eS,eS]
  refine⟨_,_,rfl,rfl,(by simp only [aY,aab,UE,aal,abN];rw [aaz];omega),?_⟩
  rw [eS]
  have e:(((if ks[i].l=true then bG else bF)++[32])++ks[i].n++[32])++[48+ks[i].c]=aZ ks[i]:=by
   unfold aZ
   simp
  rw [e]
  refine⟨LL,_,_,rfl,rfl,hL,(by rw [Lm9,Lm9,aat,aaz];omega),?_⟩
  refine⟨ah.ba sm Ya _,?_,_,_,rfl⟩
  rw [aj,aao Y,aau,aau]
  rfl
 ·rintro σ H' ⟨sm,hL,o4,o5,rfl⟩
  rw [<- zk,abM] at hL
  refine⟨_,rfl,lr,rfl,⟨_,aC.of (sm _ _ c0)⟩,NT (K:=K) (a:=lr) (xs:=oB) (fun i σ H'=>ah H H'/\H' LL=some (.lst ((ks.map aZ++((aR rs).take i).map cV).map tx))/\∃o4 o5 o6 o7 o8,σ=[some (.ref lk),some (.ref lr),some (.ref LL),o4,o5,o6,o7,o8]) ⟨sm,by rw [hL];simp,_,_,_,_,_,rfl⟩ (fun i σ H' _ ⟨sm,_⟩=>aC.of (sm _ _ c0)) ?_ ?_⟩
  ·rintro i y σ U t hi ⟨tu,mf,p4,p5,p6,p7,p8,rfl⟩ Z
   obtain⟨c9,L⟩:=aA hi
   have Vy:i<rs.length:=by omega
   have hX:=paired_at pr i Vy c9
   rw [L] at hX
   have ei:(aR rs)[i]?=some (dR rs[i] (rT i)):=by
    unfold aR
    rw [abc,ahK,Ge9 Vy]
    simp
   obtain⟨b0,eT⟩:=aaf.mp ei
   have Q7:=hT _ (aan b0)
   rw [eT] at Q7
   have VH:=VC _ (aan Vy)
   have hlen:=Q7.Ut (M:=2) VH
   have Ms:((aR rs).take (i+1)).map cV=((aR rs).take i).map cV++[cV (dR rs[i] (rT i))]:=by
    rw [aao b0,eT,aau]
    rfl
   rw [Ms]
   generalize rs[i]=r at hX Q7 VH hlen ei eT
   have st:=ai Z (.tup [.int (i:Int),y])
   have sI:=ah.trans tu st
   have hX:=hX.sm sI
   obtain⟨tt,a,b,l,g,p,rfl,GA,ha,O,Lh,B,Yb⟩:=hX
   have a3:=st _ _ mf
   refine⟨t,_,rfl,bH.of aj,rfl,_,_,rfl,_,_,rfl,rfl,?_⟩
   generalize upd U t _=H3 at st sI GA ha O Lh B Yb a3 ⊢
   have kT:V.str (aad "take")=tx iE:=by decide +kernel
   have kK:V.str (aad "keep")=tx iF:=by decide +kernel
   have kL:V.str (aad "look")=tx gm:=by decide +kernel
   have kP:V.str (aad "put")=tx mF:=by decide +kernel
   have kE:V.str (aad "tell")=tx gn:=by decide +kernel
   rw [kT,kK,kL,kP,kE]
   have e0:(aad " ")=S [32]:=by decide +kernel
   have e3:(aad " = ")=S [32,61,32]:=by decide +kernel
   have VI:∀fs:List Fc,(∀g∈fs,g∈r.take++(r.keep++r.put))->∀m∈fs.map bJ,m.length<=70:=fun fs hs m hm=>by
    obtain⟨g,B,rfl⟩:=aaw.mp hm
    exact Bh (Q7.f g (hs g B)).fn
   have fFN:∀g∈r.take++(r.keep++r.put),FN g:=fun g B=>(Q7.f g B).fn
   have inT:∀g∈r.take,g∈r.take++(r.keep++r.put):=fun g B=>aax _ B
   have inK:∀g∈r.keep,g∈r.take++(r.keep++r.put):=fun g B=>aak _ (aax _ B)
   have inP:∀g∈r.put,g∈r.take++(r.keep++r.put):=fun g B=>aak _ (aak _ B)
   obtain⟨fw1,fw2,fw3,fw4,fw5⟩:=VH
   have part1:=eV iE (r.take.map bJ)
   have part2:=eV iF (r.keep.map bJ)
   have part3:=eV gm (r.aT.map gP)
   have part4:=eV mF (r.put.map bJ)
   have part5:=eV gn (r.tell.map gQ)
   obtain⟨av,SI,_⟩:=id ha
   refine⟨_,rfl,tt,_,0,_,rfl,rfl,GA,rfl,a,rfl,⟨_,aC.of SI⟩,fun D1 R4=>?_⟩
   refine pY ha (by omega) R4 (fun x g H' R Yc Yd JP G=>⟨_,rfl,x,g,rfl,Yc,fFN g (inT g Yd),G⟩) (fun H4 s4 c3=>?_)
   refine⟨iE,D1,_,rfl,c3,by decide,(by rw [Lm9];omega),VI _ inT,fun lp1 H5 s5 adT c5=>?_⟩
   have x5:=ah.trans s4 s5
   have fr1:H3 lp1=none:=s4.free adT
   refine aL ?_
   dsimp only
   refine hid9 fun _ n9=>?_
   obtain⟨bv,UZ,_⟩:=id (O.sm x5)
   refine⟨_,rfl,_,rfl,tt,_,1,_,rfl,rfl,GA.same x5,rfl,b,rfl,⟨_,aC.of UZ⟩,fun D2 ud=>?_⟩
   refine pY (O.sm x5) (by omega) ud (fun x g H' R Yc Yd JP G=>⟨_,rfl,x,g,rfl,Yc,fFN g (inK g Yd),G⟩) (fun H6 s6 UY=>?_)
   refine⟨iF,D2,_,rfl,UY,by decide,(by rw [Lm9];omega),VI _ inK,fun lp2 H7 s7 aly c6=>?_⟩
   have x7:=ah.trans s6 s7
   refine⟨lp1,lp2,_,_,rfl,rfl,x7 _ _ c5,c6,(by rw [Lm9,Lm9,aaz];omega),fun lq1 adU=>?_⟩
   rw [<- aau]
   have y7:=ai adU (.lst ((cC iE (r.take.map bJ)++cC iF (r.keep.map bJ)).map tx))
   have a4:=aW y7
   have x8:=ah.trans x5 (ah.trans x7 y7)
   generalize upd H7 lq1 _=H8 at y7 a4 x8 ⊢
   refine n9 _ _ ?_
   try dsimp only
   refine hid9 fun _ n9=>?_
   obtain⟨lv,Ye,Yf⟩:=id (Lh.sm x8)
   have zl:=aai Yf
   refine⟨_,rfl,_,rfl,tt,_,2,_,rfl,rfl,GA.same x8,rfl,l,rfl,⟨_,aC.of Ye⟩,fun D3 Q4=>?_⟩
   refine cq (K:=K) (xs:=lv) (r.aT.map gP) (fun _ _ b y=>y=tx b) (fun _ _ _ _ _ _ h=>h) (fun _ _ _ _ _ _ h=>h) (jg (by omega)) Q4 (aC.of Ye) (by rw [Lm9];exact zl) (fun j y b H' R hy O JP G=>?_) (fun H9 ys s9 a1 po=>?_)
   ·obtain⟨hj,L⟩:=aA hy
    obtain⟨U1,J⟩:=aA O
    rw [Lm9] at U1
    rw [aaO] at J
    obtain⟨t9,e9,Mw⟩:=paired_at Yf j U1 hj
    rw [L] at e9
    subst e9
    have qQ:=Q7.l _ (aan U1)
    have qQ:aI r.aT[j].l=true/\aI r.aT[j].r=true:=qQ
    have Mw:=Mw.same JP
    generalize r.aT[j]=kk at Mw J qQ
    have n1:=il qQ.1
    have n2:=il qQ.2
    have n3:(gg kk.same).length<=6:=by cases kk.same <;> decide
    refine⟨_,rfl,t9,_,1,_,rfl,rfl,Mw,rfl,_,_,rfl,rfl,(by rw [e0,aY,aY,aaz];show _+1<=_;omega),?_⟩
    rw [e0,eS]
    refine⟨_,rfl,t9,_,0,_,rfl,rfl,Mw,rfl,_,_,rfl,rfl,(by rw [aY,aY,aab,aaz];show _+1+_<=_;omega),?_⟩
    rw [eS]
    refine⟨_,_,rfl,rfl,(by rw [aY,aY,aab,aab,aaz];show _+1+_+1<=_;omega),?_⟩
    rw [eS]
    refine⟨_,rfl,t9,_,2,_,rfl,rfl,Mw,rfl,_,_,rfl,rfl,(by rw [aY,aY,aab,aab,aab,aaz];show _+1+_+1+_<=_;omega),?_⟩
    rw [eS]
    refine G _ _ (ah.refl _) ?_
    rw [<- J]
    have ew:gg kk.same=(if kk.same=true then jn else eO):=by cases kk.same <;> rfl
    unfold gP
    rw [ew]
    simp
   rw [dJ po] at a1
   have c1:∀m∈r.aT.map gP,m.length<=70:=fun m hm=>by
    obtain⟨k,hk,rfl⟩:=aaw.mp hm
    have:=JL (Q7.l k hk)
    omega
   refine⟨gm,D3,_,rfl,a1,by decide,(by rw [Lm9];omega),c1,fun lp3 HA sA3 alB SD=>?_⟩
   have x9:=ah.trans s9 sA3
   refine⟨lq1,lp3,_,_,rfl,rfl,x9 _ _ a4,SD,(by rw [Lm9,Lm9,aab,aaz];omega),fun lq2 adV=>?_⟩
   rw [<- aau]
   generalize SK:cC iE (r.take.map bJ)++cC iF (r.keep.map bJ)++cC gm (r.aT.map gP)=Q8
   have za2:Q8.length<=3:=by rw [<- SK,aab,aab];omega
   have yA:=ai adV (.lst (Q8.map tx))
   have a5:=aW yA
   have xB:=ah.trans x8 (ah.trans x9 yA)
   generalize upd HA lq2 _=HB at yA a5 xB ⊢
   refine n9 _ _ ?_
   try dsimp only
   refine hid9 fun _ n9=>?_
   obtain⟨gv,U2,_⟩:=id (B.sm xB)
   refine⟨_,rfl,_,rfl,tt,_,3,_,rfl,rfl,GA.same xB,rfl,g,rfl,⟨_,aC.of U2⟩,fun D4 adW=>?_⟩
   refine pY (B.sm xB) (by omega) adW (fun x g H' R Yc Yd JP G=>⟨_,rfl,x,g,rfl,Yc,fFN g (inP g Yd),G⟩) (fun HC sC c4=>?_)
   refine⟨mF,D4,_,rfl,c4,by decide,(by rw [Lm9];omega),VI _ inP,fun lp4 HD sD alE c7=>?_⟩
   have xC:=ah.trans sC sD
   refine⟨lq2,lp4,_,_,rfl,rfl,xC _ _ a5,c7,(by rw [Lm9,Lm9,aaz];omega),fun lq3 adX=>?_⟩
   rw [<- aau]
   have yD:=ai adX (.lst ((Q8++cC mF (r.put.map bJ)).map tx))
   have a6:=aW yD
   have xE:=ah.trans xB (ah.trans xC yD)
   generalize upd HD lq3 _=HE at yD a6 xE ⊢
   refine n9 _ _ ?_
   try dsimp only
   refine hid9 fun _ n9=>?_
   obtain⟨pv',b7,ppv⟩:=id (Yb.sm xE)
   have zp:=aai ppv
   refine⟨_,rfl,_,rfl,tt,_,4,_,rfl,rfl,GA.same xE,rfl,p,rfl,⟨_,aC.of b7⟩,fun D5 UX=>?_⟩
   refine cq (K:=K) (xs:=pv') (r.tell.map gQ) (fun _ _ b y=>y=tx b) (fun _ _ _ _ _ _ h=>h) (fun _ _ _ _ _ _ h=>h) (jg (by omega)) UX (aC.of b7) (by rw [Lm9];exact zp) (fun j y b H' R hy O JP G=>?_) (fun HF Zt sF a2 ZT=>?_)
   ·obtain⟨hj,L⟩:=aA hy
    obtain⟨U1,J⟩:=aA O
    rw [Lm9] at U1
    rw [aaO] at J
    obtain⟨t9,e9,Mw⟩:=paired_at ppv j U1 hj
    rw [L] at e9
    subst e9
    have qQ:=Q7.p _ (aan U1)
    have qQ:aI r.tell[j].1=true/\aI r.tell[j].2=true:=qQ
    have Mw:=Mw.same JP
    generalize r.tell[j]=kk at Mw J qQ
    have n1:=il qQ.1
    have n2:=il qQ.2
    refine⟨_,rfl,t9,_,0,_,rfl,rfl,Mw,rfl,_,_,rfl,rfl,(by rw [e3,aY,aY,aaz];show _+3<=_;omega),?_⟩
    rw [e3,eS]
    refine⟨_,rfl,t9,_,1,_,rfl,rfl,Mw,rfl,_,_,rfl,rfl,(by rw [aY,aY,aab,aaz];show _+3+_<=_;omega),?_⟩
    rw [eS]
    refine G _ _ (ah.refl _) ?_
    rw [<- J]
    unfold gQ
    simp
   rw [dJ ZT] at a2
   have c2:∀m∈r.tell.map gQ,m.length<=70:=fun m hm=>by
    obtain⟨k,hk,rfl⟩:=aaw.mp hm
    have:=JM (Q7.p k hk)
    omega
   refine⟨gn,D5,_,rfl,a2,by decide,(by rw [Lm9];omega),c2,fun lp5 HG sG alH c8=>?_⟩
   have xF:=ah.trans sF sG
   refine⟨lq3,lp5,_,_,rfl,rfl,xF _ _ a6,c8,(by rw [Lm9,Lm9,aab,aaz];omega),fun lq4 adY=>?_⟩
   rw [<- aau]
   have Yg:Q8++cC mF (r.put.map bJ)++cC gn (r.tell.map gQ)=dk (dR r (rT i)):=by
    rw [<- SK]
    show _=cC iE (r.take.map bJ)++(cC iF (r.keep.map bJ)++(cC gm (r.aT.map gP)++(cC mF (r.put.map bJ)++cC gn (r.tell.map gQ))))
    simp
   rw [Yg]
   have yG:=ai adY (.lst ((dk (dR r (rT i))).map tx))
   have a7:=aW yG
   have xH:=ah.trans xE (ah.trans xF yG)
   generalize upd HG lq4 _=HH at yG a7 xH ⊢
   refine n9 _ _ ?_
   try dsimp only
   have Yh:=xH _ _ a3
   have eR:(aad "rule r")=S (fN++[32,114]):=by decide +kernel
   have eC:(aad ": ")=S [58,32]:=by decide +kernel
   have eJ:(aad "; ")=S [59,32]:=by decide +kernel
   have i4:i<=4:=by omega
   have hp:∀m∈dk (dR r (rT i)),m.length<=12+72 * 2:=fun m hm=>by
    unfold dk at hm
    simp only [aaq] at hm
    rcases hm with hm|hm|hm|hm|hm
    ·exact eX (by decide) (by rw [Lm9];exact fw1) (VI _ inT) m hm
    ·exact eX (by decide) (by rw [Lm9];exact fw2) (VI _ inK) m hm
    ·exact eX (by decide) (by rw [Lm9];exact fw3) c1 m hm
    ·exact eX (by decide) (by rw [Lm9];exact fw4) (VI _ inP) m hm
    ·exact eX (by decide) (by rw [Lm9];exact fw5) c2 m hm
   have b6:(dk (dR r (rT i))).length<=5:=by
    rw [<- Yg,aab,aab]
    omega
   have Yi:=om hp
   have d0:=sT _ hp
   have d2:(dk (dR r (rT i))).length * (12+72 * 2)<=5 * (12+72 * 2):=ac9 _ b6
   have d3:(dk (dR r (rT i))).length * (12+72 * 2+2)<=5 * (12+72 * 2+2):=ac9 _ b6
   refine⟨_,rfl,.inl ⟨rfl,_,aC.of Yh⟩,_,rfl,_,rfl,JD i4,?_⟩
   rw [JC i4,eR,eC,eJ]
   refine⟨_,_,rfl,rfl,(by rw [aY,aY,aaz];show 6+1<=_;decide),?_⟩
   rw [eS]
   refine⟨_,_,rfl,rfl,(by rw [aY,aY,aaz];show 7+2<=_;decide),?_⟩
   rw [eS]
   refine⟨rfl,_,rfl,_,lq4,(dk (dR r (rT i))).map S,rfl,rfl,.inl (aC.of (by rw [<- pK];exact a7)),(by rw [aY,Lm9];show _+_ * 2<=_;omega),?_⟩
   rw [Cm]
   refine⟨_,_,rfl,rfl,(by rw [aY,aY,aaz];show 9+_<=_;omega),?_⟩
   rw [eS]
   have eF:fN++[32,114]++[48+i]++[58,32]++gO [59,32] (dk (dR r (rT i)))=cV (dR r (rT i)):=by
    unfold cV
    show _=fN++32::([114,48+i]++58::32::gO [59,32] (dk (dR r (rT i))))
    simp
   rw [eF]
   refine⟨LL,_,_,rfl,rfl,Yh,(by rw [Lm9,aab,Lm9,Lm9,aat,aaz];omega),?_⟩
   refine⟨ah.ba (ah.trans sI xH) Ya _,?_,_,_,_,_,_,rfl⟩
   rw [aj,<- abH,aau (l₂:=[cV (dR r (rT i))])]
   rfl
  ·rintro σ U ⟨tu,mf,p4,p5,p6,p7,p8,rfl⟩
   have zt:oB.length=(aR rs).length:=by
    unfold aR
    rw [Lm9,List.length_zipIdx]
    exact zr.symm
   rw [zt,abM] at mf
   have eN:(aad "\n")=(⟨#[10]⟩:Str):=by decide +kernel
   have hlen:∀l∈ks.map aZ++(aR rs).map cV,l.length<=810:=fun l hl=>by
    rcases aaq.mp hl with z|z
    ·obtain⟨k,hk,rfl⟩:=aaw.mp z
     have h1:=(fh (hG.ok k hk).1).2
     unfold aZ
     rw [aab]
     have:(if k.l=true then bG else bF).length=7:=by cases k.l <;> rfl
     simp only [aal,aab,abN]
     omega
    ·obtain⟨r,hr,rfl⟩:=aaw.mp z
     have hf:Sl 2 r:=by
      unfold aR at hr
      obtain⟨x,hx,rfl⟩:=aaw.mp hr
      have z:x.1∈rs:=(List.mem_zipIdx' hx).2 ▸ aan _
      exact VC x.1 z
     have:=(hT r hr).Ut (M:=2) hf
     omega
   have Yi:=om hlen
   have hn:(ks.map aZ++(aR rs).map cV).length=6:=by
    rw [aab,Lm9,Lm9,<- zt]
    omega
   rw [hn] at Yi
   refine⟨rfl,_,rfl,_,LL,(ks.map aZ++(aR rs).map cV).map S,rfl,rfl,.inl (aC.of (by rw [<- pK];exact mf)),(by rw [eN,Lm9,hn];show _+6 * 1<=_;omega),?_⟩
   rw [eN,Cc,JB]
   exact q _ tu
theorem cJ:aB ["_law_script","_law_kinds_here","_law_style","_law_names_here","_law_words","_law_rules","_law_at_here","_law_one","_law_two"] ["_law_script"] (au ni):=⟨rfl,rfl,rfl,by decide +kernel,rfl,by decide +kernel,by decide +kernel⟩
theorem Dh (F:dz K "_law_book" "_law_book" ni f fd) (cO:dn P w K mg base "_law_cell" 1 ["_law_script","_law_k"] (G9 K)) (lU:dn P w K mg base "_law_kinds" 2 ["_law_cell_here"] (Bq K)) (cw:dn P w K mg base "_law_name" 1 ["_law_style","_law_k"] Hd) (nJ:dn P w K mg base "_law_rule" 3 ["_law_kinds_here","_law_one","_law_two","_law_args","_law_words"] (Ft K)) (C8:mg "range"=none) :
  aX P w K mg base dS 4 f fd ["_law_script"] (Fw K):=by
 refine F.ok cJ (fun vs H Q E h=>?_) (fun cP A outer s H vs Q E hr h=>?_)
 ·obtain⟨a,cs,rfl,_⟩:=h
  rfl
 obtain⟨a,cs,rfl,hS,q⟩:=h
 refine⟨_,(ag (az (i:=1) cJ.nd rfl (abi rfl) (ao lU hr.q rfl (aa (ao cO hr.q rfl (aa (pv 0) (aa ae af))) af)))
 (ag (az (i:=2) cJ.nd rfl (ah9 rfl) (aJ cF (ao cO hr.q rfl (aa (pv 0) (aa ae af))) ae))
 (ag (eZ (i:=3) [2] cJ.nd rfl (abi rfl) rfl (by kernel_rfl) (AI rfl C8 (aa ae af)) (fun _ _ _ _ _=>bL) (fun _ _ _ _ _=>(aJ bc aP (ao cw hr.q rfl (aa (pv 1) (aa (pv 0) af))))))
 (ag (az (i:=4) cJ.nd rfl (abi rfl) (bb (aa (ao cw hr.q rfl (aa (pv 2) (aa ae af))) (aa (ao cw hr.q rfl (aa (pv 2) (aa ae af))) af))))
 (ag (az (i:=5) cJ.nd rfl (abi rfl) (bb af))
 (ag (cB abB rfl (vN (a8 (aa ae (aa ae af)))) (bj (i:=6) cJ.nd rfl (abi rfl))
 (ag (az (i:=7) cJ.nd rfl (abi rfl) (ao cO hr.q rfl (aa (pv 0) (aa (pv 6) af))))
 (ag (az (i:=8) cJ.nd rfl (abi rfl) (ao cO hr.q rfl (aa (pv 0) (aa (aJ gY (pv 6) ae) af))))
 (ak (bp (cU aaN abm abp bz (pv 5) (aa (ao nJ hr.q rfl (aa (pv 1) (aa (pv 7) (aa (pv 8) (aa (aJ cZ (bI cT (pv 3) di (bB ae)) (bI cT (pv 4) di (bB ae))) (aa (pv 4) af)))))) af)))))))
 (ak (aG (a8 (aa (pv 1) (aa (pv 3) (aa (pv 4) (aa (pv 5) af))))))))))))),?_⟩
 try dsimp only [jZ,GP]
 refine⟨_,rfl,a,cs,0,rfl,hS,by decide,fun v0=>⟨v0,rfl,fun lk ks H1 s1 Lh zU hG=>?_⟩⟩
 have c4:aC K H1 a (cs.map V.int):=s1.seq hS
 refine⟨_,rfl,a,cs,1,rfl,c4,by decide,fun G=>?_⟩
 refine⟨_,_,rfl,rfl,(by show(0:Int)<25;decide),?_⟩
 have vM:=mid (a:=G) (b:=25) (by decide)
 obtain⟨A0,Z⟩:∃A0,A0=(G % 25 / 5 % (1+G % 25 % 5)).toNat:=⟨_,rfl⟩
 obtain⟨B0,a1⟩:∃B0,B0=(1+G % 25 % 5 - 1 - G % 25 / 5 % (1+G % 25 % 5)).toNat:=⟨_,rfl⟩
 have eN:(aad "N")=S [78]:=by decide +kernel
 refine aL ?_
 dsimp only
 refine hid9 fun _ O=>?_
 refine⟨4,rfl,by decide,by decide,fun ln OO=>?_⟩
 refine G0 (lo:=0) (n:=(4:Int).toNat) (jg (by decide)) (fun i ys H'=>ah H1 H'/\H' ln=some (.lst ys)/\ys=((acr i).map fun k:Nat=>78::nameOf A0 B0 k).map tx)
  ⟨ai OO _,aj,rfl⟩ (fun i ys H' pr=>⟨pr.2.1,by rw [pr.2.2];simp⟩) (fun i ys H' hi pr=>?_) (fun ys U pr=>?_)
 ·obtain⟨sm,hL,rfl⟩:=pr
  have c6:i<4:=hi
  refine⟨_,rfl,_,rfl,G % 25,i,congrArg (fun z:Int=>[V.int (G % 25),V.int z]) (Int.zero_add _),vM.1,by omega,fun a b ha hb a7=>?_⟩
  obtain rfl:A0=a:=Z.trans ha.symm
  obtain rfl:B0=b:=a1.trans hb.symm
  have nl:=(fh (gp (a:=A0) (b:=B0) (k:=i) (by omega) a7)).2
  refine⟨_,_,rfl,rfl,(by rw [eN,aY,aY,aaz];show 1+_<=_;omega),hL,ah.ba sm OO _,aj,?_⟩
  rw [eN,eS,List.range_succ,aau,aau]
  rfl
 obtain⟨s2,mf,rfl⟩:=pr
 have sA:=ah.trans s1 s2
 generalize a3:((acr (4:Int).toNat).map fun k:Nat=>78::nameOf A0 B0 k)=NS at mf
 have frn:H ln=none:=s1.free OO
 refine O _ _ ?_
 try dsimp only
 refine hid9 fun _ O=>?_
 refine⟨_,rfl,G % 25,4,rfl,vM.1,by decide,fun a b ha hb a7=>?_⟩
 obtain rfl:A0=a:=Z.trans ha.symm
 obtain rfl:B0=b:=a1.trans hb.symm
 refine⟨_,rfl,G % 25,5,rfl,vM.1,by decide,fun a b ha hb _=>?_⟩
 obtain rfl:A0=a:=Z.trans ha.symm
 obtain rfl:B0=b:=a1.trans hb.symm
 refine⟨(by show 2<=aaj;decide),fun lw c7=>?_⟩
 generalize L:[nameOf A0 B0 4,nameOf A0 B0 5]=WS
 have eW:[tx (nameOf A0 B0 4),tx (nameOf A0 B0 5)]=WS.map tx:=by rw [<- L];rfl
 rw [eW]
 have p3:=ai c7 (.lst (WS.map tx))
 have a6:=aW p3
 have a2:=p3 _ _ mf
 have sB:=ah.trans sA p3
 generalize upd U lw _=H3 at p3 a6 a2 sB ⊢
 refine O _ _ ?_
 try dsimp only
 refine hid9 fun _ O=>?_
 refine⟨(by show 0<=aaj;decide),fun lr sg=>?_⟩
 have p4:=ai sg (.lst [])
 have b0:=aW p4
 have frr:H lr=none:=sB.free sg
 have ad4:=sg
 generalize upd H3 lr _=H4 at p4 b0 ⊢
 refine O _ _ ?_
 try dsimp only
 have smN:∀k,k<8->br (nameOf A0 B0 k)=true:=fun k hk=>gp hk a7
 have Yj:∀k,k<8->uY (nameOf A0 B0 k)/\great (nameOf A0 B0 k)=false:=fun k hk=>by
  have z:=smN k hk
  have zn:aI (nameOf A0 B0 k)=true:=fq z
  have zh:(nameOf A0 B0 k).headD 0∈fM.cps.toList:=by
   unfold br at z
   rw [abg] at z
   exact of_decide_eq_true z.2
  have key:∀c∈fM.cps.toList,decide (c∈kj.cps.toList)=false/\decide (c=78)=false:=by decide +kernel
  have kk:=key _ zh
  refine⟨⟨zn,?_⟩,kk.1⟩
  rw [kk.2]
  exact kk.1
 have Yk:∀k,k<8->uY (78::nameOf A0 B0 k)/\great (78::nameOf A0 B0 k)=true:=fun k hk=>by
  have g:great (78::nameOf A0 B0 k)=true:=by
   unfold great
   show decide (78∈kj.cps.toList)=true
   decide +kernel
  refine⟨⟨?_,by rw [g];rfl⟩,g⟩
  have z:=fq (smN k hk)
  unfold aI at z ⊢
  rw [abg,abg] at z
  have l5:(nameOf A0 B0 k).length<=5:=by
   unfold nameOf
   simp only [aab,adn,aal,abN]
   omega
  rw [ab6,z.2.2]
  have ZZ:bu 78=true:=by decide +kernel
  rw [ZZ,decide_eq_true (by simp),decide_eq_true (by rw [aal];omega)]
  rfl
 have Yl:∀n∈NS,∃k,k<4/\n=78::nameOf A0 B0 k:=fun n hn=>by
  rw [<- a3] at hn
  obtain⟨k,hk,rfl⟩:=aaw.mp hn
  exact⟨k,acy.mp hk,rfl⟩
 have Ym:∀n∈WS,∃k,k<6/\4<=k/\n=nameOf A0 B0 k:=fun n hn=>by
  rw [<- L] at hn
  simp only [aaK,adw,or_false] at hn
  rcases hn with rfl|rfl
  ·exact⟨4,by decide,by decide,rfl⟩
  ·exact⟨5,by decide,by decide,rfl⟩
 have n4:NS.length=4:=by rw [<- a3];rfl
 have w2:WS.length=2:=by rw [<- L];rfl
 have U3:∀n∈NS++WS,uY n:=fun n hn=>by
  rcases aaq.mp hn with z|z
  ·obtain⟨k,hk,rfl⟩:=Yl n z
   exact(Yk k (by omega)).1
  ·obtain⟨k,hk,_,rfl⟩:=Ym n z
   exact(Yj k (by omega)).1
 have c1:∀n∈NS,great n=true:=fun n hn=>by
  obtain⟨k,hk,rfl⟩:=Yl n hn
  exact(Yk k (by omega)).2
 have c2:∀n∈WS,great n=false:=fun n hn=>by
  obtain⟨k,hk,_,rfl⟩:=Ym n hn
  exact(Yj k (by omega)).2
 have c8:(NS++WS).Nodup:=by
  rw [adC]
  refine⟨?_,?_,fun x hx y hy e=>?_⟩
  ·rw [<- a3]
   refine uX fun i j hi hj e=>?_
   have c6:i<4:=hi
   have d1:j<4:=hj
   injection e with _ e
   exact wD (by omega) (by omega) e
  ·rw [<- L]
   simp only [ac6,aap,adw,not_false_eq_true,ahO,and_true]
   intro e
   exact absurd (wD (by decide) (by decide) e) (by decide)
  ·have z1:=c1 x hx
   have z2:=c2 y hy
   rw [<- e,z1] at z2
   cases z2
 refine⟨(by show 2<=aaj;decide),fun tt GA=>?_⟩
 have p5:=ai GA (.tup [V.int 2,.int 4])
 have Zu:=aW p5
 have b6:=p5 _ _ b0
 have OC:=ah.trans p4 p5
 generalize upd H4 tt _=H5 at p5 Zu b6 OC ⊢
 refine⟨tt,rfl,⟨_,bH.of Zu⟩,?_⟩
 refine BR (K:=K) (a:=tt) (xs:=[V.int 2,.int 4]) (fun i σ H'=>ah H3 H'/\H' tt=some (.tup [V.int 2,.int 4])/\∃(rs:List Rl) (vs:List V) (o6 o7 o8:Option V),H' lr=some (.lst vs)/\Paired (fun r v=>Pq K H' lr v r) rs vs/\rs.length=i/\(∀r∈rs,QJ ks (NS.take 3) WS r/\Sl 2 r)/\σ=[some (.ref a),some (.ref lk),some (.int (G % 25)),some (.ref ln),some (.ref lw),some (.ref lr),o6,o7,o8]) ⟨OC,Zu,[],[],none,none,none,b6,.nil,rfl,(fun r hr=>nomatch hr),rfl⟩ (fun i σ H' _ z=>bH.of z.2.1) ?_ ?_
 ·rintro i y σ H' hi ⟨sm,J,rs,vs,o6,o7,o8,B,pR,Sq,VB,rfl⟩
  obtain⟨k,XX,rfl⟩:∃k:Nat,k<=4/\V.int (k:Int)=y:=by
   match i,hi with
   | 0,hi=>exact⟨2,by decide,abA hi⟩
   | 1,hi=>exact⟨4,by decide,abA hi⟩
  have ZF:i<2:=(aaf.mp hi).1
  have sC:=ah.trans sB sm
  have b7:aC K H' a (cs.map V.int):=sC.seq hS
  refine aL ?_
  dsimp only
  refine hid9 fun _ O=>?_
  refine⟨_,rfl,_,rfl,a,cs,k,rfl,b7,by omega,fun u1=>?_⟩
  refine O _ _ ?_
  try dsimp only
  refine hid9 fun _ O=>?_
  refine⟨_,rfl,_,rfl,_,_,rfl,rfl,a,cs,_,rfl,b7,by omega,fun u2=>?_⟩
  refine O _ _ ?_
  try dsimp only
  refine⟨_,rfl,.inl ⟨rfl,_,aC.of B⟩,_,rfl,_,rfl,_,rfl,?_⟩
  have c3:=sm _ _ a2
  have c5:=sm _ _ a6
  refine⟨_,rfl,_,rfl,ln,_,rfl,aC.of c3,fun l1 mj=>?_⟩
  rw [show(some (3:Int))=some ((3:Nat):Int) from rfl,kC (by rw [Lm9];omega),<- agd]
  have q1:=ai mj (.lst ((NS.take 3).map tx))
  have r1:=aW q1
  have a5:=q1 _ _ c5
  generalize upd H' l1 _=H6 at q1 r1 a5 ⊢
  refine⟨_,rfl,_,rfl,lw,_,rfl,aC.of a5,fun l2 gW=>?_⟩
  rw [show(some (1:Int))=some ((1:Nat):Int) from rfl,kC (by rw [Lm9];omega),<- agd]
  have q2:=ai gW (.lst ((WS.take 1).map tx))
  have r2:=aW q2
  have Pu:=q2 _ _ r1
  have c0:=q2 _ _ a5
  generalize upd H6 l2 _=H7 at q2 r2 Pu c0 ⊢
  refine⟨l1,l2,_,_,rfl,rfl,Pu,r2,(by rw [Lm9,Lm9,aat,aat,aaz];omega),fun l3 Bx=>?_⟩
  rw [<- aau]
  have q3:=ai Bx (.lst ((NS.take 3++WS.take 1).map tx))
  have r3:=aW q3
  have Y:=q3 _ _ c0
  have qa:=ah.trans q1 (ah.trans q2 q3)
  generalize upd H7 l3 _=H8 at q3 r3 Y qa ⊢
  have sE:=ah.trans sm qa
  refine⟨_,rfl,lk,l3,lw,u1,u2,ks,NS.take 3++WS.take 1,NS.take 3,WS,rfl,zU.sm (ah.trans s2 (ah.trans p3 sE)),hG,r3,(by rw [aab,aat,aat];omega),(by rw [aab,aat,aat];omega),(fun x hx=>?_),Y,by omega,by omega,(by rw [aat];omega),(fun n hn=>?_),fun v r H9 s9 hX hD hF=>?_⟩
  ·rcases aaq.mp hx with z|z
   ·exact aax _ z
   ·exact aak _ (abT z)
  ·rcases aaq.mp hn with z|z
   ·exact U3 n (aax _ (abT z))
   ·exact U3 n (aak _ z)
  have sF:=ah.trans qa s9
  have a4:=sF _ _ B
  have zv:=aai pR
  refine⟨lr,_,_,rfl,rfl,a4,(by rw [aaz];omega),?_⟩
  have hX:=hX lr _ (qa _ _ B)
  have nt:tt≠lr:=fun e=>by rw [e,B] at J;cases J
  refine⟨ah.ba (ah.trans sE s9) ad4 _,(by rw [aD nt];exact sF _ _ J),rs++[r],vs++[v],_,_,_,aj,bx (L2.Paired.bA pR fun _ _ z=>(z.sm sF).upd a4) (.cons (hX.upd a4) .nil),by simp [Sq],fun r' c9=>?_,rfl⟩
  rcases aaq.mp c9 with z|z
  ·exact VB r' z
  ·rw [aap.mp z];exact⟨hD,hF⟩
 ·rintro σ H' ⟨sm,J,rs,vs,o6,o7,o8,B,pR,Sq,VB,rfl⟩
  refine⟨_,rfl,_,rfl,_,rfl,_,rfl,(by show 4<=aaj;decide),fun t4 d0=>?_⟩
  have pz:=ai d0 (.tup [V.ref lk,V.ref ln,V.ref lw,V.ref lr])
  have sD:=ah.trans sB (ah.trans sm pz)
  exact q t4 lk ln lw lr ks NS WS rs _ sD (bH.of aj) (zU.sm (ah.trans s2 (ah.trans p3 (ah.trans sm pz)))) (pz _ _ (sm _ _ a2)) (pz _ _ (sm _ _ a6)) ⟨vs,pz _ _ B,L2.Paired.bA pR fun _ _ z=>z.x.sm pz⟩ ⟨hG,n4,w2,U3,c1,c2,c8,Sq,fun r hr=>(VB r hr).1,fun r hr=>(VB r hr).2⟩
end
section
variable {P:abn} {w:abU} {K:aaa} {mg:Str->Option aae} {base:Heap} {f:aay} {fd:abZ} {c:Cl}
theorem OS (st:uw) (n:Cs):(bM (st.map fJ) (abx (S n):Key)).getD (tx n)=tx (gM st n):=by
 rw [mL]
 unfold gM
 cases KQ st n <;> rfl
theorem OT (a:Nat):(!decide (V.str ⟨#[a]⟩=V.str (aad "N"))) = !decide (a=78):=by rw [SH]
theorem Iw:aB ["_law_name_here","_law_values"] ["_law_name_here","_law_values"] (au tI):=⟨rfl,rfl,rfl,by decide +kernel,rfl,by decide +kernel,by decide +kernel⟩
theorem Iy (F:dz K "_law_at" "_law_at" tI f fd):aX P w K mg base dS 1 f fd ["_law_name_here","_law_values"] Hw:=by
 refine F.ok Iw (fun vs H Q E h=>?_) (fun cP A outer s H vs Q E hr h=>?_)
 ·obtain⟨n,d,st,rfl,_⟩:=h
  rfl
 obtain⟨n,d,st,rfl,hd,q⟩:=h
 have z:=oG hr
 refine⟨_,(ak (aG (dG z (pv 1) (pv 0) (pv 0) ⟨rfl,rfl,rfl,rfl⟩))),?_⟩
 refine⟨_,rfl,d,rfl,.inl ⟨_,.inl hd⟩,_,rfl,_,rfl,_,gj.k (k:=(abx (S n):Key)) hd,?_⟩
 rw [OS]
 exact q
theorem Iz:aB ["_law_fact_here","_law_values"] ["_law_fact_here","_law_values"] (au tJ):=⟨rfl,rfl,rfl,by decide +kernel,rfl,by decide +kernel,by decide +kernel⟩
theorem IA (F:dz K "_law_as" "_law_as" tJ f fd) (J:mg "tuple"=none):aX P w K mg base dS 1 f fd ["_law_fact_here","_law_values"] (Hx K):=by
 refine F.ok Iz (fun vs H Q E h=>?_) (fun cP A outer s H vs Q E hr h=>?_)
 ·obtain⟨d,v,st,g,rfl,_⟩:=h
  rfl
 obtain⟨d,v,st,g,rfl,hd,⟨t,t2,rfl,h1,h2⟩,hlen,q⟩:=h
 have hu:=oG hr
 refine⟨_,(ak (aG (a8 (aa (aq ax (pv 0) ae (fun _ _=>rfl)) (aa (cy gz rfl J PyProof.Rows.Boot.«tuple» (aa (bW [1] rfl (by kernel_rfl) (vN (aq ax (pv 0) ae (fun _ _=>rfl))) (fun _ _ _ _ _=>bL) (fun _ _ _ _ _=>(dG hu (pv 1) (pv 0) (pv 0) ⟨rfl,rfl,rfl,rfl⟩))) af)) af))))),?_⟩
 refine⟨_,rfl,t,_,0,_,rfl,rfl,h1,rfl,?_⟩
 refine⟨_,rfl,t,_,1,_,rfl,rfl,h1,rfl,?_⟩
 refine⟨t2,rfl,⟨_,h2⟩,fun D L=>?_⟩
 refine Fl (K:=K) (xs:=g.as.map tx) (gs:=(g.as.map (gM st)).map tx) (by simp) (jg (by rw [Lm9];omega)) L h2 (fun i x y H' R G B sm V=>?_) (fun H1 s1 O=>?_)
 ·obtain⟨hi,ex⟩:=aA G
  have Y:i<g.as.length:=by simpa using hi
  have ex:tx g.as[i]=x:=by rw [<- ex,aaO]
  subst ex
  obtain⟨hj,z⟩:=aA B
  have z:tx (gM st g.as[i])=y:=by rw [<- z,aaO,aaO]
  subst z
  have Mr:=sm _ _ hd
  refine⟨_,rfl,d,rfl,.inl ⟨_,.inl Mr⟩,_,rfl,_,rfl,_,gj.k (k:=(abx (S g.as[i]):Key)) Mr,?_⟩
  have e:(bM (st.map fJ) (abx (S g.as[i]):Key)).getD (tx g.as[i])=tx (gM st g.as[i]):=by
   rw [mL]
   unfold gM
   cases KQ st g.as[i] <;> rfl
  rw [e]
  exact V _ (ah.refl _)
 ·refine⟨D,_,rfl,.inl ⟨aC.of O,fun p Z=>?_⟩⟩
  refine⟨(by show 2<=aaj;decide),fun p2 yI=>?_⟩
  refine q _ _ (ah.trans s1 (ah.trans (ai Z _) (ai yI _))) ⟨p2,p,rfl,aj,?_⟩
  rw [aD (aO aj yI)]
  exact aj
theorem jE:aB ["_law_look","_law_values","_law_left","_law_right"] ["_law_look","_law_values"] (au lH):=⟨rfl,rfl,rfl,by decide +kernel,rfl,by decide +kernel,by decide +kernel⟩
theorem z8 (F:dz K "_law_holds" "_law_holds" lH f fd) (fF:dn P w K mg base "_law_at" 1 ["_law_name_here","_law_values"] Hw):aX P w K mg base dS 2 f fd ["_law_look","_law_values"] (Bt K):=by
 refine F.ok jE (fun vs H Q E h=>?_) (fun cP A outer s H vs Q E hr h=>?_)
 ·obtain⟨d,v,st,k,rfl,_⟩:=h
  rfl
 obtain⟨d,v,st,k,rfl,hd,⟨t,rfl,J⟩,nl,nr,q⟩:=h
 refine⟨_,(ag (az (i:=2) jE.nd rfl (abi rfl) (ao fF hr.q rfl (aa (aq ax (pv 0) ae (fun _ _=>rfl)) (aa (pv 1) af))))
 (ag (az (i:=3) jE.nd rfl (abi rfl) (ao fF hr.q rfl (aa (aq ax (pv 0) ae (fun _ _=>rfl)) (aa (pv 1) af))))
 (ag (aU (aE du (aq ax (pv 0) ae (fun _ _=>rfl)) aP (aQ _))
 (ak (aG (cS du (pv 2) (pv 3) (aQ _))))
 aF)
 (ak (aG (pC (cS fE (aq j7 (pv 2) ae (fun _ _=>rfl)) aP (aQ _)) (pC (cS fE (aq j7 (pv 3) ae (fun _ _=>rfl)) aP (aQ _)) (pB (cS fE (pv 2) (pv 3) (aQ _)))))))))),?_⟩
 try dsimp only [jZ,GP]
 refine⟨_,rfl,t,_,1,_,rfl,rfl,J,rfl,_,rfl,k.l,d,st,rfl,hd,?_⟩
 refine⟨_,rfl,t,_,2,_,rfl,rfl,J,rfl,_,rfl,k.r,d,st,rfl,hd,?_⟩
 refine⟨_,rfl,t,_,0,_,rfl,rfl,J,rfl,rfl,_,rfl,?_⟩
 have L:decide (tx (gg k.same)=V.str (aad "same"))=k.same:=by cases k.same <;> decide +kernel
 rw [L]
 unfold ji Ht at q
 have G1:∀{a:Cs},uY a->1<=(S a).length/\(S a).length<=1000:=fun {a} h=>by
  have z:=jV h.1
  rw [aY]
  refine⟨?_,by have:=z.2.1;omega⟩
  cases a with
  | nil=>exact absurd rfl z.1
  | cons a r=>simp
 cases hs:k.same with
 | true =>
  rw [hs,if_pos rfl] at q
  refine dP ⟨_,rfl,_,rfl,rfl,?_⟩
  rw [mz]
  exact q
 | false =>
  rw [hs,if_neg (by decide)] at q
  refine bw ?_
  refine⟨_,rfl,S (gM st k.l),0,_,rfl,rfl,(sz (ab0 (G1 nl).2 (by decide))),qD (G1 nl).1,rfl,_,rfl,?_⟩
  rw [cz,OT,<- nl.2]
  refine dQ (fun B=>?_) (fun B=>?_)
  ·rw [B,aeB] at q
   refine⟨_,rfl,S (gM st k.r),0,_,rfl,rfl,(sz (ab0 (G1 nr).2 (by decide))),qD (G1 nr).1,rfl,_,rfl,?_⟩
   rw [cz,OT,<- nr.2]
   refine dQ (fun G=>?_) (fun G=>?_)
   ·rw [G,aeB] at q
    refine⟨_,rfl,_,rfl,rfl,?_⟩
    rw [mz]
    exact q
   ·have e:(!great (gM st k.r))=false:=by simpa using G
    rw [e,aeH] at q
    exact q
  ·have e:(!great (gM st k.l))=false:=by simpa using B
   rw [e,aeH] at q
   exact q
end
section
variable {P:abn} {w:abU} {K:aaa} {mg:Str->Option aae} {base:Heap} {f:aay} {fd:abZ} {c:Cl}
theorem tQ {n:Int} (h:n.natAbs<=10 ^ 60+10):n.natAbs.log2<1920:=by
 by_cases e:n.natAbs=0
 ·rw [e];decide
 ·rw [Nat.log2_lt e]
  have:(10 ^ 60+10:Nat)<2 ^ 1920:=by decide +kernel
  omega
theorem xS:aB ["_law_step","_law_way","_law_cell_here"] ["_law_step","_law_way","_law_cell_here"] (au jx):=⟨rfl,rfl,rfl,by decide +kernel,rfl,by decide +kernel,by decide +kernel⟩
theorem xV (F:dz K "_law_spoilt" "_law_spoilt" jx f fd) (bf:mg "len"=none):aX P w K mg base dS 1 f fd ["_law_step","_law_way","_law_cell_here"] (w6 K):=by
 refine F.ok xS (fun vs H Q E h=>?_) (fun cP A outer s H vs Q E hr h=>?_)
 ·obtain⟨sv,wy,cc,n,ns,rfl,_⟩:=h
  rfl
 obtain⟨sv,wy,cc,n,ns,rfl,⟨p,t,rfl,B,J⟩,h0,h2,hn,O,q⟩:=h
 refine⟨_,(ag (aU (aE du (pv 1) ae (aQ _))
 (ak (aG (a8 (aa (aJ gY ae (aJ cF (pv 2) (aJ MG ae ae))) (aa (aq ax (pv 0) ae (fun _ _=>rfl)) af)))))
 aF)
 (ag (aU (aE du (pv 1) ae (aQ _))
 (ak (aG (a8 (aa (aJ GG (RS MH ae) (aJ cF (pv 2) (aJ MG ae ae))) (aa (aq ax (pv 0) ae (fun _ _=>rfl)) af)))))
 aF)
 (ag (aU (PW.pt (mr (aE du (pv 1) ae (aQ _)) (je (aE I9 (aK aH rfl bf abq (aa (aq ax (pv 0) ae (fun _ _=>rfl)) af)) ae (aQ _)))))
 (ak (aG (a8 (aa (aq ax (pv 0) ae (fun _ _=>rfl)) (aa (bI Jj (aq ax (pv 0) ae (fun _ _=>rfl)) (bB ae) di) af)))))
 aF)
 (ak (aG (a8 (aa (aq ax (pv 0) ae (fun _ _=>rfl)) (aa (aJ Qz (aq ax (pv 0) ae (fun _ _=>rfl)) (a8 (aa aP af))) af)))))))),?_⟩
 try dsimp only [jZ,GP]
 have md:=mid (a:=cc) (b:=10 ^ 60) (by decide +kernel)
 refine⟨_,rfl,rfl,_,rfl,?_⟩
 refine dQ (fun _=>?_) (fun _=>?_)
 ·refine⟨_,rfl,_,_,rfl,rfl,⟨by decide,by decide,by decide⟩,_,_,rfl,rfl,(by show(0:Int)<10 ^ 60;decide +kernel),_,_,rfl,rfl,_,rfl,p,_,1,_,rfl,rfl,B,rfl,(by show 2<=aaj;decide),fun p2 yI=>?_⟩
  have sm:=ai yI (.tup [V.int (2+cc % 10 ^ 60),V.ref t])
  exact q _ (2+cc % 10 ^ 60) ns _ sm ⟨p2,t,rfl,bH.of aj,J.same sm⟩ ⟨tQ (by omega),by omega,O⟩ (.inr (.inl (by omega)))
 refine⟨_,rfl,rfl,_,rfl,?_⟩
 refine dQ (fun _=>?_) (fun _=>?_)
 ·refine⟨_,rfl,_,rfl,_,_,rfl,rfl,⟨by decide,by decide,by decide⟩,_,_,rfl,rfl,(by show(0:Int)<10 ^ 60;decide +kernel),_,_,rfl,rfl,_,rfl,p,_,1,_,rfl,rfl,B,rfl,(by show 2<=aaj;decide),fun p2 yI=>?_⟩
  have sm:=ai yI (.tup [V.int (-1 - cc % 10 ^ 60),V.ref t])
  exact q _ (-1 - cc % 10 ^ 60) ns _ sm ⟨p2,t,rfl,bH.of aj,J.same sm⟩ ⟨tQ (by omega),by omega,O⟩ (.inl (by omega))
 have sl:n.natAbs.log2<1920:=tQ (by omega)
 have bC:Qx [98]:=⟨by decide,by decide,by decide⟩
 have fin:∀H',ah H H'->V3 (Tc (vQ (S8 (gh K) (Pz 0) (tC (V.int 0))) (vQ (S8 (Sf K) (S8 (gh K) (Pz 0) (tC (V.int 1))) (Tc (vQ (tC (V.str (aad "b"))) GN))) GN))) { nx:=fun _ H'=>Q .cg H',rt:=Q } [some (.ref p),some (.int wy),some (.int cc)] H':=fun H' s'=>by
  refine⟨_,rfl,p,_,0,_,rfl,rfl,B.same s',rfl,_,rfl,p,_,1,_,rfl,rfl,B.same s',rfl,(by show 1<=aaj;decide),fun tb Y=>?_⟩
  have eb:V.str (aad "b")=tx [98]:=by decide +kernel
  rw [eb]
  have x1:=ai Y (.tup [tx [98]])
  have Z:=aW x1
  have s1:=ah.trans s' x1
  generalize upd H' tb _=H1 at x1 Z s1 ⊢
  refine⟨t,tb,_,_,rfl,rfl,J.same s1,bH.of Z,(by rw [Lm9,aaz];show _+1<=_;omega),fun e=>?_,(fun _ z=>nomatch z),fun _ _ G qJ=>?_⟩
  ·refine⟨(by show 2<=aaj;decide),fun p2 yI=>?_⟩
   have sm:=ai yI (.tup [V.int n,V.ref tb])
   have e':ns=[]:=by simpa using e
   exact q _ n [[98]] _ (ah.trans s1 sm) ⟨p2,tb,rfl,bH.of aj,bH.of (sm _ _ Z)⟩ ⟨sl,by decide,fun x L=>by rw [aap.mp L];exact bC⟩ (.inr (.inr ⟨rfl,by rw [e'];decide⟩))
  ·have x2:=ai qJ (.tup (ns.map tx++[tx [98]]))
   have r2:=aj (H:=H1) (a:=G) (o:=.tup (ns.map tx++[tx [98]]))
   have s2:=ah.trans s1 x2
   generalize upd H1 G _=U at x2 r2 s2 ⊢
   refine⟨(by show 2<=aaj;decide),fun p2 yI=>?_⟩
   have sm:=ai yI (.tup [V.int n,V.ref G])
   refine q _ n (ns++[[98]]) _ (ah.trans s2 sm) ⟨p2,G,rfl,bH.of aj,bH.of (sm _ _ ?_)⟩ ⟨sl,?_,fun x L=>?_⟩ (.inr (.inr ⟨rfl,by simp⟩))
   ·rw [r2,aau];rfl
   ·rw [aab];show _+1<=100;omega
   ·rcases aaq.mp L with z|z
    ·exact O x z
    ·rw [aap.mp z];exact bC
 dsimp only [RN]
 refine fO (Good:=fun σ' H'=>ah H H'/\σ'=[some (.ref p),some (.int wy),some (.int cc)]) (fun _ go=>?_) (fun σ' H' hg=>?_)
 ·refine⟨_,rfl,rfl,_,rfl,?_⟩
  refine dQ (fun _=>?_) (fun _=>bw (go _ _ ⟨ah.refl _,rfl⟩))
  refine⟨_,rfl,p,_,1,_,rfl,rfl,B,rfl,t,_,rfl,.inr J,_,_,rfl,rfl,_,rfl,?_⟩
  rw [Lm9]
  refine dQ (fun c1=>?_) (fun _=>go _ _ ⟨ah.refl _,rfl⟩)
  have c1:0<ns.length:=by have:=of_decide_eq_true c1;omega
  refine⟨_,rfl,p,_,0,_,rfl,rfl,B,rfl,?_⟩
  refine⟨_,rfl,p,_,1,_,rfl,rfl,B,rfl,_,rfl,t,_,rfl,J,fun G H1 s1 h1=>?_⟩
  have e:fI (ns.map tx) (some 1) none=(ns.drop 1).map tx:=by
   rw [show(some (1:Int))=some ((1:Nat):Int) from rfl,qw (by rw [Lm9];omega),ahh]
  rw [e] at h1
  refine⟨(by show 2<=aaj;decide),fun p2 yI=>?_⟩
  have sm:=ai yI (.tup [V.int n,V.ref G])
  exact q _ n (ns.drop 1) _ (ah.trans s1 sm) ⟨p2,G,rfl,bH.of aj,h1.same sm⟩ ⟨sl,by rw [abO];omega,fun x L=>O x (aeF L)⟩ (.inr (.inr ⟨rfl,by rw [abO];omega⟩))
 obtain⟨s',rfl⟩:=hg
 exact fin H' s'
theorem By {H:Hp} {l:List Fc} {ys:List V} (h:Ts K H (E9 (l.map fT)) ys):Paired (Fact K H) ((E9 (l.map fT)).map Zw) ys:=by
 refine Bd ?_
 rw [QB (Uj l)]
 exact h
theorem fY:aB ["_law_kinds_here","_law_facts","_law_same","_law_lasting","_law_kept","_law_fact_here","_law_bag"] ["_law_kinds_here","_law_facts","_law_same"] (au nu):=⟨rfl,rfl,rfl,by decide +kernel,rfl,by decide +kernel,by decide +kernel⟩
theorem Di (F:dz K "_law_pool" "_law_pool" nu f fd) (xW:mg "sorted"=none) (eo:mg "tuple"=none):aX P w K mg base dS 1 f fd ["_law_kinds_here","_law_facts","_law_same"] (Fy K):=by
 refine F.ok fY (fun vs H Q E h=>?_) (fun cP A outer s H vs Q E hr h=>?_)
 ·obtain⟨lk,lf,ls,ks,fs,ps,rfl,_⟩:=h
  rfl
 obtain⟨lk,lf,ls,ks,fs,ps,rfl,⟨kvs,hk,pk⟩,Yn,⟨A3,hf,pf⟩,alJ,c2,⟨pvs,c0,pps⟩,alL,q⟩:=h
 have zk:=aai pk
 have zf:=aai pf
 have zp:=aai pps
 refine⟨_,(ag (az (i:=3) fY.nd rfl (ah9 rfl) (bW [] rfl (by kernel_rfl) (aN (pv 0)) (fun _ _ _ _ _=>(gA (bU (aq (r:=gh K) ax (pv 0) ae (fun _ _=>rfl))))) (fun _ _ _ _ _=>(aq (r:=gh K) ax (pv 0) ae (fun _ _=>rfl)))))
 (ag (az (i:=4) fY.nd rfl (abi rfl) (bb af))
 (ag (cB abB rfl (aN (pv 1)) (bj (i:=5) fY.nd rfl (abi rfl))
 (ak (aU (PW.pt (mr (aE ix (aq ax (pv 5) ae (fun _ _=>rfl)) (pv 3) (by with_unfolding_all rfl)) (je (aE (KN hr.units) (pv 5) (pv 4) (by with_unfolding_all rfl)))))
 (ak (bp (cU aaN abm abp bz (pv 4) (aa (pv 5) af))))
 aF)))
 (ag (az (i:=6) fY.nd rfl (abi rfl) (aK (kz hr.units) rfl xW af4 (aa (bW [3] rfl (by kernel_rfl) (aN (pv 1)) (fun _ _ _ _ _=>(gA (aE (r:=rIn K true) cX (aq (r:=gh K) ax (pv 0) ae (fun _ _=>rfl)) (pv 1) (by with_unfolding_all rfl)))) (fun _ _ _ _ _=>(pv 0))) af)))
 (ak (aG (a8 (aa (cy fQ rfl eo PyProof.Rows.Boot.«tuple» (aa (pv 6) af)) (aa (cy fQ rfl eo PyProof.Rows.Boot.«tuple» (aa (aK (kz hr.units) rfl xW af4 (aa (pv 4) af)) af)) (aa (cy fQ rfl eo PyProof.Rows.Boot.«tuple» (aa (aK (kz hr.units) rfl xW af4 (aa (pv 2) af)) af)) (aa fB af))))))))))),?_⟩
 try dsimp only [jZ,GP]
 refine⟨_,rfl,lk,rfl,⟨_,aC.of hk⟩,fun D hD=>?_⟩
 refine ef (K:=K) (xs:=kvs) ks (·.l) (·.n) (fun _ _ b y=>y=tx b) (fun _ _ _ _ _ _ h=>h) (fun _ _ _ _ _ _ h=>h) (jg (by omega)) hD (aC.of hk) zk (fun i x b H' R Z Y sm O=>?_) (fun i x b H' R Z Y hk sm O=>?_) (fun H1 ys s1 hL po=>?_)
 ·obtain⟨hi,ex⟩:=aA Z
  obtain⟨cH,J⟩:=aA Y
  obtain⟨t,G,B⟩:=paired_at pk i cH hi
  rw [ex] at G
  rw [J] at B
  subst G
  exact⟨_,rfl,t,_,2,_,rfl,rfl,B.same sm,rfl,_,rfl,O _ (ah.refl _)⟩
 ·obtain⟨hi,ex⟩:=aA Z
  obtain⟨cH,J⟩:=aA Y
  obtain⟨t,G,B⟩:=paired_at pk i cH hi
  rw [ex] at G
  rw [J] at B
  subst G
  exact⟨_,rfl,t,_,0,_,rfl,rfl,B.same sm,rfl,O _ _ (ah.refl _) rfl⟩
 rw [dJ po] at hL
 have hL:H1 D=some (.lst ((mJ ks).map tx)):=hL
 have vh:∀l:List Fc,∀t∈l.map fT,(∃q,t=.tup q)/\t.toD.deep<=8:=fun l t B=>by
  obtain⟨g,_,rfl⟩:=aaw.mp B
  exact⟨⟨_,rfl⟩,ip g⟩
 refine aL ?_
 dsimp only
 refine hid9 fun _ n9=>?_
 refine⟨(by show 0<=aaj;decide),fun lq ZW=>?_⟩
 have p2:=ai ZW (.lst [])
 have r2:=aW p2
 generalize upd H1 lq _=U at p2 r2 ⊢
 refine n9 _ _ ?_
 try dsimp only
 have Q6:=ah.trans s1 p2
 refine⟨_,rfl,lf,rfl,⟨_,aC.of (Q6 _ _ hf)⟩,?_⟩
 refine bR (K:=K) (a:=lf) (xs:=A3) (fun i σ H'=>ah H1 H'/\(∃(gs:List Fc) (yk:List V),H' lq=some (.lst yk)/\Paired (Fact K H') gs yk/\gs.length<=i)/\∃o5,σ=[some (.ref lk),some (.ref lf),some (.ref ls),some (.ref D),some (.ref lq),o5,none]) ⟨p2,⟨[],[],r2,.nil,aar _⟩,none,rfl⟩ (fun i σ H' _ ⟨sm,_⟩=>aC.of (sm _ _ (s1 _ _ hf))) ?_ ?_
 ·rintro i y σ H' hi ⟨sm,⟨gs,yk,OU,SM,b7⟩,o5,rfl⟩
  obtain⟨Ij,ey⟩:=aA hi
  have JU:i<fs.length:=by omega
  have sA:=ah.trans s1 sm
  have L:=(paired_at pf i JU Ij).keep (Kp.same (H0:=H) sA)
  rw [ey] at L
  have a7:=Fact.Se L
  obtain⟨t,t2,G,h1,h2⟩:=id L
  subst G
  refine aL ?_
  dsimp only
  refine⟨_,rfl,t,_,0,_,rfl,rfl,h1,rfl,_,rfl,D,_,rfl,.inl (aC.of (sm _ _ hL)),rfl,dj _,_,rfl,?_⟩
  rw [d9]
  have zy:=aai SM
  refine dQ (fun _=>?_) (fun _=>bw ⟨sm,⟨gs,yk,OU,SM,by omega⟩,_,rfl⟩)
  refine⟨_,rfl,_,rfl,lq,yk,gs.map fT,_,rfl,aC.of OU,dX SM,a7,ip _,vh gs,_,rfl,?_⟩
  refine dQ (fun _=>?_) (fun _=>⟨sm,⟨gs,yk,OU,SM,by omega⟩,_,rfl⟩)
  refine⟨_,rfl,.inl ⟨rfl,_,aC.of OU⟩,_,rfl,lq,_,_,rfl,rfl,OU,(by rw [aaz];omega),?_⟩
  refine⟨ah.ba sm ZW _,⟨gs++[fs[i]],_,aj,bx (L2.Paired.bA SM fun _ _ ⟨t,t2,e,z1,z2⟩=>⟨t,t2,e,cu OU z1,cu OU z2⟩) (.cons ⟨t,t2,rfl,cu OU h1,cu OU h2⟩ .nil),by simp;omega⟩,_,rfl⟩
 ·rintro σ H' ⟨sm,⟨gs,yk,OU,SM,b7⟩,o5,rfl⟩
  have sA:=ah.trans s1 sm
  have a2:=sA _ _ hf
  have pf':Paired (Fact K H') fs A3:=L2.Paired.bA pf fun _ _ z=>z.keep (Kp.same (H0:=H) sA)
  refine⟨_,rfl,lf,rfl,⟨_,aC.of a2⟩,fun D2 ud=>?_⟩
  refine ef (K:=K) (xs:=A3) fs (fun f=>!decide (f.k∈mJ ks)) id (fun _ H f y=>Fact K H f y) (fun _ _ _ _ _ k h=>Fact.keep k h) (fun _ _ _ _ _ _ h=>h) (jg (by omega)) ud (aC.of a2) zf (fun i x b U R Z Y tu O=>?_) (fun i x b U R Z Y Z0 tu O=>?_) (fun H3 yb s3 oM pob=>?_)
  ·obtain⟨hi,ex⟩:=aA Z
   obtain⟨cH,J⟩:=aA Y
   obtain⟨t,t2,G,h1,h2⟩:=paired_at pf' i cH hi
   rw [ex] at G
   rw [J] at h1
   subst G
   refine⟨_,rfl,t,_,0,_,rfl,rfl,h1.same tu,rfl,_,rfl,D,_,rfl,.inl (aC.of (tu _ _ (sm _ _ hL))),rfl,dj _,_,rfl,?_⟩
   rw [d9]
   exact O _ (ah.refl _)
  ·obtain⟨hi,ex⟩:=aA Z
   obtain⟨cH,J⟩:=aA Y
   have hF:=paired_at pf' i cH hi
   rw [ex,J] at hF
   exact⟨_,rfl,O _ _ (ah.refl _) (hF.keep (Kp.same (H0:=H') tu))⟩
  rw [aep] at pob
  have allB:∀(gs:List Fc),∀t∈gs.map fT,Ef t=1/\t.toD.deep<=18:=fun gs t B=>by
   obtain⟨g,_,rfl⟩:=aaw.mp B
   exact WX g
  have shB:∀(gs:List Fc),∀t∈gs.map fT,∀u∈gs.map fT,zu t u=true:=fun gs t B u hu=>by
   obtain⟨g,_,rfl⟩:=aaw.mp B
   obtain⟨g2,_,rfl⟩:=aaw.mp hu
   exact WY g g2
  have zb:=aai pob
  have zb2:(fs.filter fun f=>!decide (f.k∈mJ ks)).length<=fs.length:=acw _ _
  generalize fs.filter (fun f=>!decide (f.k∈mJ ks))=bg at pob zb zb2
  refine⟨D2,yb,_,1,rfl,aC.of oM,dX pob,(by omega),.inl rfl,allB _,shB _,fun a0 r0 b0 Vz=>?_⟩
  have x4:=ai b0 (.lst r0)
  have y4:=aW x4
  have Vx:=oo x4 Vz
  generalize upd H3 a0 _=H4 at x4 y4 Vx ⊢
  refine aL ?_
  dsimp only
  refine⟨_,rfl,a0,r0,rfl,aC.of y4,fun t0 i0 n0 VJ K7=>?_⟩
  have x5:=ai K7 (.jY ⟨.type "tuple",none,.seq i0 n0,VJ⟩ (.tup r0))
  have y5:=aW x5
  have a3:=oo x5 Vx
  generalize upd H4 t0 _=H5 at x5 y5 a3 ⊢
  have OC:=ah.trans s3 (ah.trans x4 x5)
  have ad8:Paired (Fact K H5) gs yk:=L2.Paired.bA SM fun _ _ z=>z.keep (Kp.same (H0:=H') OC)
  have zy:=aai SM
  refine⟨_,rfl,lq,yk,_,1,rfl,aC.of (OC _ _ OU),dX ad8,(by omega),.inl rfl,allB _,shB _,fun a1 r1 b6 c1=>?_⟩
  have x6:=ai b6 (.lst r1)
  have y6:=aW x6
  have a4:=oo x6 c1
  generalize upd H5 a1 _=H6 at x6 y6 a4 ⊢
  refine⟨a1,r1,rfl,aC.of y6,fun t1 i1 n1 sl1 zj=>?_⟩
  have x7:=ai zj (.jY ⟨.type "tuple",none,.seq i1 n1,sl1⟩ (.tup r1))
  have y7:=aW x7
  have a5:=oo x7 a4
  generalize upd H6 t1 _=H7 at x7 y7 a5 ⊢
  have a6:=ah.trans x6 x7
  have a1:=ah.trans sA (ah.trans OC a6)
  have tsn:Ts K H7 (ps.map pE) pvs:=by
   refine⟨by rw [Lm9];omega,fun i h1 h2=>?_⟩
   rw [aaO]
   obtain⟨t,G,B⟩:=paired_at pps i (by simpa using h1) h2
   rw [G]
   show jm K H7 (.tup [.str (S _),.str (S _)]) (.ref t)
   refine .tup (B.same a1) rfl fun j j1 j2=>?_
   match j,j1,j2 with
   | 0,_,_=>exact .str _
   | 1,_,_=>exact .str _
  refine⟨_,rfl,ls,pvs,_,1,rfl,aC.of (a1 _ _ c0),tsn,(by omega),.inl rfl,(fun t B=>by obtain⟨g,_,rfl⟩:=aaw.mp B;exact⟨rfl,by show 1<=18;decide⟩),(fun t B u hu=>by obtain⟨g,_,rfl⟩:=aaw.mp B;obtain⟨g2,_,rfl⟩:=aaw.mp hu;rfl),fun a2 r2 ZI QW=>?_⟩
  have x8:=ai ZI (.lst r2)
  have y8:=aW x8
  generalize upd H7 a2 _=H8 at x8 y8 ⊢
  refine⟨a2,r2,rfl,aC.of y8,fun t2 i2 n2 Jc qJ=>?_⟩
  have x9:=ai qJ (.jY ⟨.type "tuple",none,.seq i2 n2,Jc⟩ (.tup r2))
  generalize upd H8 t2 _=H9 at x9 ⊢
  refine⟨(by show 4<=aaj;decide),fun p hp=>?_⟩
  have xA:=ai hp (.tup [V.ref t0,V.ref t1,V.ref t2,V.bl false])
  have s7A:=ah.trans x8 (ah.trans x9 xA)
  have s5A:=ah.trans a6 s7A
  exact q _ _ _ _ (ah.trans a1 s7A) ⟨p,t0,t1,_,r0,r1,rfl,bH.of aj,.inl (.inr ⟨_,s5A _ _ y5⟩),By (oo s5A a3),.inl (.inr ⟨_,s7A _ _ y7⟩),By (oo s7A a5),.inl ⟨r0,i0,n0,VJ,s5A _ _ y5⟩⟩
end
section
variable {P:abn} {w:abU} {K:aaa} {mg:Str->Option aae} {base:Heap} {f:aay} {fd:abZ} {c:Cl}
theorem dD:aB ["_law_kinds_here","_law_pool_here","_law_rule_here","_law_values","_law_lasting","_law_heads_here","_law_fact_here","_law_look","_law_news"] ["_law_kinds_here","_law_pool_here","_law_rule_here","_law_values"] (au nj):=⟨rfl,rfl,rfl,by decide +kernel,rfl,by decide +kernel,by decide +kernel⟩
theorem Dj (F:dz K "_law_fits" "_law_fits" nj f fd) (eE:dn P w K mg base "_law_as" 1 ["_law_fact_here","_law_values"] (Hx K)) (fF:dn P w K mg base "_law_at" 1 ["_law_name_here","_law_values"] Hw) (lV:dn P w K mg base "_law_holds" 2 ["_law_look","_law_values"] (Bt K)) (bf:mg "len"=none):aX P w K mg base dS 3 f fd ["_law_kinds_here","_law_pool_here","_law_rule_here","_law_values"] (Fx K):=by
 refine F.ok dD (fun vs H Q E h=>?_) (fun cP A outer s H vs Q E hr h=>?_)
 ·obtain⟨lk,pq,rq,d,ks,dM,cf,b,r,st,rfl,_⟩:=h
  rfl
 obtain⟨lk,pq,rq,d,ks,dM,cf,b,r,st,rfl,⟨kvs,hk,pk⟩,Yn,hP,⟨tr,a1,b1,l1,g1,p1,rfl,Mx,hA,hB,Lh,hg,Yb⟩,hd,⟨w1,w2,w3,w4,w5⟩,a2,qQ,q⟩:=h
 have zk:=aai pk
 refine⟨_,(ag (eZ (i:=4) [] dD.nd rfl (abi rfl) rfl (by kernel_rfl) (aN (pv 0)) (fun _ _ _ _ _=>(gA (bU (aq (r:=gh K) ax (pv 0) ae (fun _ _=>rfl))))) (fun _ _ _ _ _=>(aq (r:=gh K) ax (pv 0) ae (fun _ _=>rfl))))
 (ag (eZ (i:=5) [3] dD.nd rfl (abi rfl) rfl (by kernel_rfl) (aN (aJ cZ (aq ax (pv 2) ae (fun _ _=>rfl)) (aq ax (pv 2) ae (fun _ _=>rfl)))) (fun _ _ _ _ _=>bL) (fun _ _ _ _ _=>(ao eE hr.q rfl (aa (pv 0) (aa (pv 1) af)))))
 (ag (cB abB rfl (aN (pv 5)) (bj (i:=6) dD.nd rfl (abi rfl))
 (ag (aU (PW.pt (mr (aE ix (aq ax (pv 6) ae (fun _ _=>rfl)) (pv 4) (by with_unfolding_all rfl)) (je (aE (kJ hr.units) (pv 6) (aq ax (pv 1) ae (fun _ _=>rfl)) (by with_unfolding_all rfl)))))
 (ak (aG fB))
 aF)
 (ak (aU (PW.pt (mr (aE cX (aq ax (pv 6) ae (fun _ _=>rfl)) (pv 4) (by with_unfolding_all rfl)) (je (aE qg (Oj af2 ag7 (wW hr.units) (aq ax (pv 1) ae (fun _ _=>rfl)) (aa (pv 6) af)) (cU aaN agc ahg (Bo hr.units) (pv 5) (aa (pv 6) af)) (aQ _)))))
 (ak (aG fB))
 aF))))
 (ag (cB abB rfl (aN (aq ax (pv 2) ae (fun _ _=>rfl))) (bj (i:=7) dD.nd rfl (abi rfl))
 (ak (aU (fK (bU (ao lV hr.q rfl (aa (pv 7) (aa (pv 3) af)))))
 (ak (aG fB))
 aF)))
 (ag (aU (PW.pt (oF (bU (aq ax (pv 1) ae (fun _ _=>rfl))) (mq (aE I9 (aK aH rfl bf abq (aa (aq ax (pv 2) ae (fun _ _=>rfl)) af)) ae (aQ _)))))
 (ak (aG (vL (aq ax (pv 1) ae (fun _ _=>rfl)))))
 aF)
 (ag (eZ (i:=8) [3,1] dD.nd rfl (abi rfl) rfl (by kernel_rfl) (aN (aq ax (pv 2) ae (fun _ _=>rfl))) (fun _ _ _ _ _=>(gA (aE (r:=wV K) (kJ hr.units) (ao eE hr.q rfl (aa (pv 0) (aa (pv 1) af))) (aq (r:=gh K) ax (pv 2) ae (fun _ _=>rfl)) (by with_unfolding_all rfl)))) (fun _ _ _ _ _=>(pv 0)))
 (ag (az (i:=8) dD.nd rfl (abi rfl) (aJ cZ (pv 8) (bW [3] rfl (by kernel_rfl) (aN (aq ax (pv 2) ae (fun _ _=>rfl))) (fun _ _ _ _ _=>(gA (aE fE (ao fF hr.q rfl (aa (aq (r:=gh K) ax (pv 0) ae (fun _ _=>rfl)) (aa (pv 1) af))) (ao fF hr.q rfl (aa (aq (r:=gh K) ax (pv 0) ae (fun _ _=>rfl)) (aa (pv 1) af))) (aQ _)))) (fun _ _ _ _ _=>(pv 0)))))
 (ak (aG (cS I9 (aK aH rfl bf abq (aa (pv 8) af)) ae (aQ _))))))))))),?_⟩
 try dsimp only [jZ,GP]
 refine⟨_,rfl,lk,rfl,⟨_,aC.of hk⟩,fun D hD=>?_⟩
 refine ef (K:=K) (xs:=kvs) ks (·.l) (·.n) (fun _ _ b y=>y=tx b) (fun _ _ _ _ _ _ h=>h) (fun _ _ _ _ _ _ h=>h) (jg (by omega)) hD (aC.of hk) zk (fun i x b H' R O B sm L=>?_) (fun i x b H' R O B hk sm L=>?_) (fun H1 ys s1 hL po=>?_)
 ·obtain⟨hi,ex⟩:=aA O
  obtain⟨cH,G⟩:=aA B
  obtain⟨t,Y,ht⟩:=paired_at pk i cH hi
  rw [ex] at Y
  rw [G] at ht
  subst Y
  exact⟨_,rfl,t,_,2,_,rfl,rfl,ht.same sm,rfl,_,rfl,L _ (ah.refl _)⟩
 ·obtain⟨hi,ex⟩:=aA O
  obtain⟨cH,G⟩:=aA B
  obtain⟨t,Y,ht⟩:=paired_at pk i cH hi
  rw [ex] at Y
  rw [G] at ht
  subst Y
  exact⟨_,rfl,t,_,0,_,rfl,rfl,ht.same sm,rfl,L _ _ (ah.refl _) rfl⟩
 rw [dJ po] at hL
 have hL:H1 D=some (.lst ((mJ ks).map tx)):=hL
 have vh:∀l:List Fc,∀t∈l.map fT,(∃q,t=.tup q)/\t.toD.deep<=8:=fun l t ht=>by
  obtain⟨g,_,rfl⟩:=aaw.mp ht
  exact⟨⟨_,rfl⟩,ip g⟩
 refine aL ?_
 dsimp only
 refine hid9 fun _ n9=>?_
 obtain⟨av,SI,Yo⟩:=id (hA.sm s1)
 obtain⟨bv,UZ,Yp⟩:=id (hB.sm s1)
 have za:=aai Yo
 have zb:=aai Yp
 refine⟨_,rfl,tr,_,0,_,rfl,rfl,Mx.same s1,rfl,_,rfl,tr,_,1,_,rfl,rfl,Mx.same s1,rfl,a1,b1,_,_,rfl,rfl,SI,UZ,(by rw [aaz];omega),fun l2 gW=>?_⟩
 have t2:=ai gW (.lst (av++bv))
 have h2:=aW t2
 have pf:Paired (Fact K (upd H1 l2 (.lst (av++bv)))) (r.take++r.keep) (av++bv):=L2.Paired.bA (bx Yo Yp) fun _ _ z=>z.keep (Kp.same (H0:=H1) t2)
 generalize upd H1 l2 _=U at t2 h2 pf ⊢
 have zf:=aai pf
 have sA:=ah.trans s1 t2
 have fa:∀g∈r.take++r.keep,g.as.length<=1000:=fun g hg=>a2 g (by
  rcases aaq.mp hg with z|z
  ·exact aax _ z
  ·exact aak _ (aax _ z))
 refine⟨l2,rfl,⟨_,aC.of h2⟩,fun D2 ud=>?_⟩
 refine cq (K:=K) (xs:=av++bv) (ay st r) (fun _ H' g y=>Fact K H' g y) (fun _ _ _ _ _ k h=>h.keep k) (fun _ _ _ _ _ _ h=>h) (jg (by rw [aab];omega)) ud (aC.of h2) (by rw [<- zf,ay,Lm9]) (fun i y b H' R hy B sm L=>?_) (fun H3 SA s3 oM Q3=>?_)
 ·obtain⟨hi,ey⟩:=aA hy
  obtain⟨cH,G⟩:=aA B
  have FO:i<(r.take++r.keep).length:=by rw [ay,Lm9] at cH;exact cH
  have G:wr st (r.take++r.keep)[i]=b:=by rw [<- G];exact(aaO (l:=r.take++r.keep) (wr st)).symm
  have J:=paired_at pf i FO hi
  rw [ey] at J
  exact⟨_,rfl,_,rfl,d,y,st,_,rfl,sm _ _ (sA _ _ hd),J.keep (Kp.same (H0:=H') sm),fa _ (aan FO),fun v' jc vR hv=>L _ _ vR (by rw [<- G];exact hv.fact)⟩
 have xQ:=ah.trans sA s3
 have SD:=hP.sm xQ
 obtain⟨p,t0,t1,z2,y0,y1,rfl,hp,ZS,pb,SE,pl,Eb⟩:=SD
 have VA:H3 D=some (.lst ((mJ ks).map tx)):=s3 _ _ (t2 _ _ hL)
 have z3:=aai Q3
 have tsH:Ts K H3 ((ay st r).map fT) SA:=dX Q3
 have qF:∀H',ah H H'->gS ks st r dM cf b=false->Q (.bl false) H':=fun H' s' e=>by
  have:=q H' s'
  rw [e] at this
  exact this
 have fH:jq ks st r dM cf=false->gS ks st r dM cf b=false:=fun e=>by
  unfold gS
  rw [e]
  simp
 have fL:r.aT.all (ji st)=false->gS ks st r dM cf b=false:=fun e=>by
  unfold gS
  rw [e]
  simp
 refine n9 _ _ ?_
 try dsimp only
 refine⟨_,rfl,D2,rfl,⟨_,aC.of oM⟩,?_⟩
 refine bR (K:=K) (a:=D2) (xs:=SA) (fun i σ H'=>H'=H3/\((ay st r).take i).all (gR ks dM cf (ay st r))=true/\∃o,σ=[some (.ref lk),some (.ref p),some (.ref tr),some (.ref d),some (.ref D),some (.ref D2),o,none,none]) ⟨rfl,by simp,none,rfl⟩ (fun i σ H' _ ⟨e,_⟩=>by rw [e];exact aC.of oM) ?_ ?_
 ·rintro i y σ H' hi ⟨rfl,Ed,o,rfl⟩
  obtain⟨Tw,ey⟩:=aA hi
  have cH:i<(ay st r).length:=by omega
  have J:=paired_at Q3 i cH Tw
  rw [ey] at J
  have Z:=Fact.Se J
  obtain⟨t,tt,Y,h1,a7⟩:=id J
  subst Y
  have Ms:((ay st r).take (i+1)).all (gR ks dM cf (ay st r))=gR ks dM cf (ay st r) (ay st r)[i]:=by
   rw [aao cH,abJ,Ed]
   simp
  have qF':gR ks dM cf (ay st r) (ay st r)[i]=false->Q (.bl false) H':=fun e=>qF H' xQ (fH (by
   unfold jq
   rw [ag8]
   exact⟨_,aan cH,by rw [e];decide⟩))
  refine aL ?_
  dsimp only
  have aeb:(cf.map fT).any (fun a=>eqT a (Tr.tup [.str (S (ay st r)[i].k),.tup (((ay st r)[i].as.map S).map .str)]))=decide ((ay st r)[i]∈cf):=wL cf (ay st r)[i]
  have Yq:∀l:List Fc,(l.map fT).countP (fun a=>eqT a (Tr.tup [.str (S (ay st r)[i].k),.tup (((ay st r)[i].as.map S).map .str)]))=l.countP (fun a=>decide (a=(ay st r)[i])):=fun l=>wY l (ay st r)[i]
  by_cases hm:(ay st r)[i].k∈mJ ks
  ·have eB:gR ks dM cf (ay st r) (ay st r)[i]=decide ((ay st r)[i]∈cf):=by unfold gR;rw [if_pos hm]
   refine⟨_,rfl,t,_,0,_,rfl,rfl,h1,rfl,_,rfl,D,_,rfl,.inl (aC.of VA),rfl,dj _,_,rfl,?_⟩
   rw [d9,decide_eq_true hm]
   refine dP ⟨_,rfl,_,rfl,p,_,1,_,rfl,rfl,hp,rfl,t1,y1,cf.map fT,_,rfl,SE,dX pl,Z,ip _,vh cf,_,rfl,?_⟩
   rw [aeb]
   cases B:decide ((ay st r)[i]∈cf) with
   | false=>exact dP (qF' (by rw [eB,B]))
   | true =>
    refine bw ?_
    refine⟨_,rfl,t,_,0,_,rfl,rfl,h1,rfl,_,rfl,D,_,rfl,.inl (aC.of VA),rfl,dj _,_,rfl,?_⟩
    rw [if_pos rfl,d9,decide_eq_true hm]
    exact bw (bw ⟨rfl,by rw [Ms,eB,B],_,rfl⟩)
  ·have eB:gR ks dM cf (ay st r) (ay st r)[i]=decide ((ay st r).countP (fun a=>decide (a=(ay st r)[i]))<=dM.countP (fun a=>decide (a=(ay st r)[i]))):=by unfold gR;rw [if_neg hm]
   refine⟨_,rfl,t,_,0,_,rfl,rfl,h1,rfl,_,rfl,D,_,rfl,.inl (aC.of VA),rfl,dj _,_,rfl,?_⟩
   rw [d9,decide_eq_false hm]
   refine bw (bw ?_)
   refine⟨_,rfl,t,_,0,_,rfl,rfl,h1,rfl,_,rfl,D,_,rfl,.inl (aC.of VA),rfl,dj _,_,rfl,?_⟩
   rw [if_pos rfl,d9,decide_eq_false hm]
   refine dP ⟨_,rfl,p,_,0,_,rfl,rfl,hp,rfl,⟨t0,rfl,Eb⟩,_,rfl,t0,y0,dM.map fT,_,_,rfl,rfl,ZS,dX pb,Z,vh dM,_,rfl,.inl ⟨rfl,_,aC.of oM⟩,_,rfl,D2,SA,(ay st r).map fT,_,_,rfl,rfl,aC.of oM,tsH,Z,vh _,_,_,rfl,rfl,_,rfl,?_⟩
   rw [Yq,Yq]
   refine dQ (fun c=>?_) (fun c=>?_)
   ·have c':=of_decide_eq_true c
    exact qF' (by rw [eB];exact decide_eq_false (by omega))
   ·have c':(ay st r).countP (fun a=>decide (a=(ay st r)[i]))<=dM.countP (fun a=>decide (a=(ay st r)[i])):=by simpa using c
    exact⟨rfl,by rw [Ms,eB];exact decide_eq_true c',_,rfl⟩
 ·rintro σ H' ⟨rfl,Ed,o,rfl⟩
  rw [<- z3,abM] at Ed
  have Ur:jq ks st r dM cf=true:=Ed
  obtain⟨lv,Ye,Yf⟩:=id (Lh.sm xQ)
  have zl:=aai Yf
  refine⟨_,rfl,tr,_,2,_,rfl,rfl,Mx.same xQ,rfl,l1,rfl,⟨_,aC.of Ye⟩,?_⟩
  refine bR (K:=K) (a:=l1) (xs:=lv) (fun i σ U=>U=H'/\(r.aT.take i).all (ji st)=true/\∃o7,σ=[some (.ref lk),some (.ref p),some (.ref tr),some (.ref d),some (.ref D),some (.ref D2),o,o7,none]) ⟨rfl,by simp,none,rfl⟩ (fun i σ H' _ ⟨e,_⟩=>by rw [e];exact aC.of Ye) ?_ ?_
  ·rintro i y σ U hi ⟨rfl,Q9,o7,rfl⟩
   obtain⟨Tw,ey⟩:=aA hi
   have cH:i<r.aT.length:=by omega
   have hX:=paired_at Yf i cH Tw
   rw [ey] at hX
   have hn:=qQ _ (aan cH)
   refine aL ?_
   dsimp only
   refine⟨_,rfl,_,rfl,d,y,st,r.aT[i],rfl,xQ _ _ hd,hX,hn.1,hn.2,_,rfl,?_⟩
   have Ms:(r.aT.take (i+1)).all (ji st)=ji st r.aT[i]:=by
    rw [aao cH,abJ,Q9]
    simp
   cases B:ji st r.aT[i] with
   | true=>exact bw ⟨rfl,by rw [Ms,B],_,rfl⟩
   | false =>
    refine dP (qF _ xQ (fL ?_))
    rw [ag8]
    exact⟨_,aan cH,by rw [B];decide⟩
  ·rintro σ U ⟨rfl,Q9,o7,rfl⟩
   rw [<- zl,abM] at Q9
   have qT:∀H',ah H H'->Q (.bl (!b && (!decide (r.take=[]) || dH st r cf))) H':=fun H' s'=>by
    have z:=q H' s'
    have e:gS ks st r dM cf b=(!b && (!decide (r.take=[]) || dH st r cf)):=by
     unfold gS
     rw [Q9,Ur]
     simp
    rw [e] at z
    exact z
   have aec:=hA.sm xQ
   obtain⟨av3,aee,aef⟩:=id aec
   have za3:=aai aef
   refine⟨_,rfl,p,_,3,_,rfl,rfl,hp,rfl,_,rfl,?_⟩
   cases b with
   | true=>exact dP (dP ⟨_,rfl,p,_,3,_,rfl,rfl,hp,rfl,_,rfl,qT _ xQ⟩)
   | false =>
    refine bw ?_
    refine⟨_,rfl,tr,_,0,_,rfl,rfl,Mx.same xQ,rfl,a1,_,rfl,.inl (aC.of aee),_,_,rfl,rfl,_,rfl,?_⟩
    by_cases e:r.take=[]
    ·have e0:av3.length=0:=by rw [<- za3,e];rfl
     rw [e0]
     refine bw ?_
     rw [decide_eq_true e] at qT
     obtain⟨gv,U2,VL⟩:=id (hg.sm xQ)
     have zg:=aai VL
     refine⟨_,rfl,tr,_,3,_,rfl,rfl,Mx.same xQ,rfl,g1,rfl,⟨_,aC.of U2⟩,fun D3 Q4=>?_⟩
     refine ef (K:=K) (xs:=gv) r.put (fun f=>!decide (wr st f∈cf)) id (fun _ H f y=>Fact K H f y) (fun _ _ _ _ _ k h=>Fact.keep k h) (fun _ _ _ _ _ _ h=>h) (jg (by omega)) Q4 (aC.of U2) zg (fun i x f H4 R O B Yr L=>?_) (fun i x f H4 R O B Z0 Yr L=>?_) (fun H4 ys4 s4 zY X6=>?_)
     ·obtain⟨hi,ex⟩:=aA O
      obtain⟨cH,G⟩:=aA B
      have J:=paired_at VL i cH hi
      rw [ex,G] at J
      have sB:=ah.trans xQ Yr
      refine⟨_,rfl,_,rfl,d,x,st,f,rfl,sB _ _ hd,J.keep (Kp.same (H0:=H) Yr),a2 f (aak _ (aak _ (by rw [<- G];exact aan cH))),fun v' H5 s5 hv=>?_⟩
      have a1:=ah.trans Yr s5
      refine⟨_,rfl,p,_,1,_,rfl,rfl,hp.same a1,rfl,t1,y1,cf.map fT,_,rfl,SE.same a1,dX (L2.Paired.bA pl fun _ _ z=>z.keep (Kp.same (H0:=H) a1)),Fact.Se (K:=K) hv.fact,ip _,vh cf,_,rfl,?_⟩
      rw [show(cf.map fT).any (fun a=>eqT a (Tr.tup [.str (S (wr st f).k),.tup (((wr st f).as.map S).map .str)]))=decide (wr st f∈cf) from wL cf (wr st f)]
      exact L _ s5
     ·obtain⟨hi,ex⟩:=aA O
      obtain⟨cH,G⟩:=aA B
      have J:=paired_at VL i cH hi
      rw [ex,G] at J
      exact⟨_,rfl,L _ _ (ah.refl _) (J.keep (Kp.same (H0:=H) Yr))⟩
     rw [aep] at X6
     have z4:=aai X6
     have V:=ah.trans xQ s4
     refine aL ?_
     dsimp only
     refine hid9 fun _ n9=>?_
     obtain⟨qv,a3,pqv⟩:=id (Yb.sm V)
     have zq:=aai pqv
     refine⟨_,rfl,_,rfl,tr,_,4,_,rfl,rfl,Mx.same V,rfl,p1,rfl,⟨_,aC.of a3⟩,fun D4 a4=>?_⟩
     refine ef (K:=K) (xs:=qv) r.tell (fun f=>!decide (gM st f.1=gM st f.2)) id (fun _ H f y=>Pair K H f y) (fun _ _ _ _ _ k h=>Pair.keep k h) (fun _ _ _ _ _ _ h=>h) (jg (by omega)) a4 (aC.of a3) zq (fun i x f H5 R O B sm5 L=>?_) (fun i x f H5 R O B Z0 sm5 L=>?_) (fun H5 ys5 s5 Li po5=>?_)
     ·obtain⟨hi,ex⟩:=aA O
      obtain⟨cH,G⟩:=aA B
      obtain⟨t9,e9,h9⟩:=paired_at pqv i cH hi
      rw [ex] at e9
      rw [G] at h9
      subst e9
      have h9:=h9.same sm5
      have Xx:=sm5 _ _ (V _ _ hd)
      refine⟨_,rfl,t9,_,0,_,rfl,rfl,h9,rfl,_,rfl,f.1,d,st,rfl,Xx,_,rfl,t9,_,1,_,rfl,rfl,h9,rfl,_,rfl,f.2,d,st,rfl,Xx,rfl,_,rfl,?_⟩
      rw [mz]
      exact L _ (ah.refl _)
     ·obtain⟨hi,ex⟩:=aA O
      obtain⟨cH,G⟩:=aA B
      have J:=paired_at pqv i cH hi
      rw [ex,G] at J
      exact⟨_,rfl,L _ _ (ah.refl _) (J.keep (Kp.same (H0:=H) sm5))⟩
     rw [aep] at po5
     have z5:=aai po5
     have f4:(r.put.filter fun f=>!decide (wr st f∈cf)).length<=r.put.length:=acw _ _
     have f5:(r.tell.filter fun f=>!decide (gM st f.1=gM st f.2)).length<=r.tell.length:=acw _ _
     refine⟨D3,D4,_,_,rfl,rfl,s5 _ _ zY,Li,(by rw [aaz];omega),fun l9 a5=>?_⟩
     refine n9 _ _ ?_
     try dsimp only
     refine⟨_,rfl,l9,_,rfl,.inl (aC.of aj),_,_,rfl,rfl,?_⟩
     have a6:=ah.trans V (ah.trans s5 (ai a5 (.lst (ys4++ys5))))
     have eC:decide ((0:Int)<((ys4++ys5).length:Int))=dH st r cf:=by
      rw [aab,<- z4,<- z5]
      unfold dH
      have a1:(r.put.any fun f=>!decide (wr st f∈cf))=decide (0<(r.put.filter fun f=>!decide (wr st f∈cf)).length):=by
       rw [ac3,adv,decide_eq_true_iff,agq]
       simp only [ab1]
      have a2:(r.tell.any fun f=>!decide (gM st f.1=gM st f.2))=decide (0<(r.tell.filter fun f=>!decide (gM st f.1=gM st f.2)).length):=by
       rw [ac3,adv,decide_eq_true_iff,agq]
       simp only [ab1]
      rw [a1,a2,<- Bool.decide_or]
      exact decide_eq_decide.mpr (by omega)
     have z:=qT _ a6
     rw [show(!false && (!true || dH st r cf))=dH st r cf by simp,<- eC] at z
     exact z
    ·have e0:0<av3.length:=by
      rw [<- za3]
      exact List.length_pos_iff.mpr e
     rw [decide_eq_false e] at qT
     have ee:decide ((0:Int)<(av3.length:Int))=true:=decide_eq_true (by omega)
     refine(if_pos ee).mpr ?_
     exact⟨_,rfl,p,_,3,_,rfl,rfl,hp,rfl,_,rfl,qT _ xQ⟩
end
section
variable {P:abn} {w:abU} {K:aaa} {mg:Str->Option aae} {base:Heap} {f:aay} {fd:abZ} {c:Cl} {C0 C1:aay} {Cx:Nat->aay}
theorem fc:aB ["_law_book_here","_law_pool_here","_law_step","_law_caught","error"] ["_law_book_here","_law_pool_here","_law_step"] (au iP):=⟨rfl,rfl,rfl,by decide +kernel,rfl,by decide +kernel,by decide +kernel⟩
theorem vi (F:dz K "_law_refused" "_law_refused" iP f fd) (tR:KJ P w K mg base "fits" 4 ["book","pool","step"] (Hu K c C1)) (FT:mg "PoolError"=some (.ref C0)) (fZ:mg "isinstance"=none) (qW:mg "NoStep"=some (.ref C1)) (Dk:mg "ValueError"=none)
  (Dl:mg "NotFitting"=some (.ref (Cx 0))) (OV:mg "NoFact"=some (.ref (Cx 1))) (OW:mg "NoName"=some (.ref (Cx 2))) (OX:mg "NoKind"=some (.ref (Cx 3))) (Lj:mg "BadArgs"=some (.ref (Cx 4))) (IB:mg "TooGreat"=some (.ref (Cx 5))) (OY:mg "NoFall"=some (.ref (Cx 6))) (OZ:mg "NoPool"=some (.ref (Cx 7)))
  (xm:ahM K (.ref C1) (.ref C0)=some true) (xk:PySem.W.ExcKit K C1) (k1:acj K (.ref C1) (.ref C1)=some true) (k2:acj K (.ref C1) (.type "ValueError")=some true) (kx:∀i,i<8->acj K (.ref C1) (.ref (Cx i))=some false) :
  aX P w K mg base dS 5 f fd ["_law_book_here","_law_pool_here","_law_step"] (uB K c):=by
 refine F.ok fc (fun vs H Q E h=>?_) (fun cP A outer s H vs Q E hr h=>?_)
 ·obtain⟨H0,bv,G,sv,ks,rs,dM,cf,b,n,ns,rfl,_⟩:=h
  rfl
 obtain⟨H0,bv,G,sv,ks,rs,dM,cf,b,n,ns,rfl,J,L,O,Z,h1,h2,Y,U4,q⟩:=h
 refine⟨_,(ag (az (i:=3) fc.nd rfl (abi rfl) S1)
 (Ou (i:=4) (fun pn R=>(ak (bp (N1 tR hr.q rfl (aa (pv 0) (aa (pv 1) (aa (pv 2) af))))))) fc.nd rfl rfl rfl FT (fun a oe cls B z=>(ak (az (i:=3) fc.nd rfl (abi rfl) (pv 4)))) bq (fun a oe cls B z=>(ag (aU (PW.pt (oF (fK (bU (aK (id (α:=fD _ _ (Ue K a cls)) (Fh (oe:=oe) (aak _ (aap.mpr rfl)) B z)) rfl fZ ady (aa (pv 3) (aa (cb (v:=.ref _) rfl qW rfl) af))))) (mq (fK (bU (aK (id (α:=fD _ _ (Ue K a cls)) (Fh (oe:=oe) (aak _ (aap.mpr rfl)) B z)) rfl fZ ady (aa (pv 3) (aa (IW rfl Dk PyProof.Rows.Boot.«ValueError» (v:=.ty "ValueError") rfl) af))))))))
 (ak (aG fB))
 aF)
 (ak (aG (vL (aK (id (α:=fD _ _ (So K a cls)) (K0 (oe:=oe) (aak _ (aap.mpr rfl)) B z)) rfl fZ ady (aa (pv 3) (aa (a8 (aa (cb (v:=.ref _) rfl Dl rfl) (aa (cb (v:=.ref _) rfl OV rfl) (aa (cb (v:=.ref _) rfl OW rfl) (aa (cb (v:=.ref _) rfl OX rfl) (aa (cb (v:=.ref _) rfl Lj rfl) (aa (cb (v:=.ref _) rfl IB rfl) (aa (cb (v:=.ref _) rfl OY rfl) (aa (cb (v:=.ref _) rfl OZ rfl) af))))))))) af)))))))))),?_⟩
 try dsimp only [jZ,GP]
 refine⟨_,rfl,_,rfl,_,rfl,H0,bv,G,sv,ks,rs,dM,cf,b,n,ns,rfl,J,L,O,Z,h1,h2,Y,fun _ H1 s1=>?_,fun r hr=>absurd hr (U4 r)⟩
 refine⟨xm,fun x=>?_⟩
 refine⟨_,rfl,?_⟩
 refine⟨_,rfl,V.ref C1,.ref C1,C1,true,rfl,.inl ⟨C1,rfl,rfl⟩,rfl,xk,k1,_,rfl,bw ?_⟩
 refine⟨_,rfl,V.ty "ValueError",.type "ValueError",C1,true,rfl,.inr ⟨_,rfl,rfl⟩,rfl,xk,k2,_,rfl,bw ?_⟩
 refine⟨_,rfl,(by show 8<=aaj;decide),fun t ht=>?_⟩
 have ka:ahN K (.ref C1) ([Cx 0,Cx 1,Cx 2,Cx 3,Cx 4,Cx 5,Cx 6,Cx 7].map abF)=some false:=by
  simp only [abw,adK,ahN,kx 0 (by decide),kx 1 (by decide),kx 2 (by decide),kx 3 (by decide),kx 4 (by decide),kx 5 (by decide),kx 6 (by decide),kx 7 (by decide)]
 refine⟨t,C1,[Cx 0,Cx 1,Cx 2,Cx 3,Cx 4,Cx 5,Cx 6,Cx 7],false,rfl,aj,rfl,xk,ka,?_⟩
 exact⟨_,rfl,q _ (ah.trans s1 (ai ht _))⟩
end
section
variable {P:abn} {w:abU} {K:aaa} {mg:Str->Option aae} {base:Heap} {f:aay} {fd:abZ} {c:Cl} {C1:aay}
theorem U5 (ns:List Int):∃cs:List Int,fI (ns.map V.int) (some 7) (some 37)=cs.map V.int/\cs.length<=30:=by
 unfold fI
 rw [<- ahh,<- agd]
 refine⟨_,rfl,?_⟩
 rw [show(some (7:Int))=some ((7:Nat):Int) from rfl,show(some (37:Int))=some ((37:Nat):Int) from rfl,HT.oa,HT.oa,aat,abO]
 omega
theorem de:aB ["_law_script","_law_kinds_here","_law_names_here","_law_words","_law_rules","_law_d","_law_book_here","_law_rule_here","_law_mine","_law_reps","_law_values","_law_heads_here","_law_facts","_law_cell_here","_law_pool_here","_law_step","_law_found"] ["_law_script"] (au qP):=⟨rfl,rfl,rfl,by decide +kernel,rfl,by decide +kernel,by decide +kernel⟩
theorem U6 (F:dz K "law" "law" qP f fd) (nK:dn P w K mg base "_law_book" 4 ["_law_script"] (Fw K)) (aS:dn P w K mg base "_law_digits" 1 ["_law_cell_here","_law_sizes"] (sZ K)) (cO:dn P w K mg base "_law_cell" 1 ["_law_script","_law_k"] (G9 K)) (nM:dn P w K mg base "read_book" 9 ["text"] (NM K c)) (nN:dn P w K mg base "_law_text" 2 ["_law_kinds_here","_law_rules"] (Fv K))
  (eD:dn P w K mg base "_law_names" 1 ["_law_facts"] (tf K)) (eE:dn P w K mg base "_law_as" 1 ["_law_fact_here","_law_values"] (Hx K)) (bt:dn P w K mg base "_law_drawn" 1 ["_law_kinds_here","_law_number","_law_args"] (vI K)) (nO:dn P w K mg base "_law_pool" 1 ["_law_kinds_here","_law_facts","_law_same"] (Fy K)) (tR:KJ P w K mg base "fits" 4 ["book","pool","step"] (Hu K c C1))
  (nP:dn P w K mg base "_law_fits" 3 ["_law_kinds_here","_law_pool_here","_law_rule_here","_law_values"] (Fx K)) (iV:dn P w K mg base "_law_refused" 5 ["_law_book_here","_law_pool_here","_law_step"] (uB K c)) (jF:dn P w K mg base "_law_spoilt" 1 ["_law_step","_law_way","_law_cell_here"] (w6 K)) (xt:mg "dict"=none) (OP:mg "zip"=none) (bf:mg "len"=none) (eo:mg "tuple"=none) (fZ:mg "isinstance"=none) (U7:mg "bool"=none) :
  aX P w K mg base (Gy P w) 10 f fd ["_law_script"] (JA K):=by
 refine F.okE de (fun vs H Q E h=>?_) (fun cP A outer s H vs Q E hr h=>?_)
 ·obtain⟨a,ns,rfl,_⟩:=h
  rfl
 obtain⟨a,cs,rfl,hS,hn,q⟩:=h
 have hu:=oG hr
 refine⟨_,(ag (S4 (ao nK hr.q rfl (aa (pv 0) af)) (ME rfl (jI (bj (i:=1) de.nd rfl (abi rfl)) (jI (bj (i:=2) de.nd rfl (ah9 rfl)) (jI (bj (i:=3) de.nd rfl (ah9 rfl)) (jI (bj (i:=4) de.nd rfl (abi rfl)) IX))))))
 (ag (az (i:=5) de.nd rfl (abi rfl) (ao aS hr.q rfl (aa (ao cO hr.q rfl (aa (pv 0) (aa ae af))) (aa (bb (aa ae (aa ae (aa ae (aa ae (aa ae (aa ae (aa ae (aa ae af))))))))) af))))
 (ag (az (i:=6) de.nd rfl (abi rfl) (ao nM hr.q rfl (aa (ao nN hr.q rfl (aa (pv 1) (aa (pv 4) af))) af)))
 (ag (az (i:=7) de.nd rfl (abi rfl) (aq aw (pv 4) (aq aw (pv 5) ae (fun _ _=>rfl)) (fun _ _=>rfl)))
 (ag (az (i:=8) de.nd rfl (abi rfl) (ao eD hr.q rfl (aa (aJ cZ (aq ax (pv 7) ae (fun _ _=>rfl)) (aq ax (pv 7) ae (fun _ _=>rfl))) af)))
 (ag (az (i:=9) de.nd rfl (ah9 rfl) (aJ cZ (pv 3) (bI cT (pv 2) (bB ae) (bB ae))))
 (ag (aU (aE du (aq aw (pv 5) ae (fun _ _=>rfl)) ae (aQ _))
 (ak (az (i:=9) de.nd rfl (ah9 rfl) (aJ cZ (bI cT (pv 2) (bB ae) (bB ae)) (bI cT (pv 3) di (bB ae)))))
 aF)
 (ag (az (i:=10) de.nd rfl (ah9 rfl) (w9 rfl (pv 8) (bW [9] rfl (by kernel_rfl) (aN (bI cT (pv 5) (bB ae) (bB (aJ gY ae (aK aH rfl bf abq (aa (pv 8) af)))))) (fun _ _ _ _ _=>bL) (fun _ _ _ _ _=>(aq (r:=P0 K) aw (pv 1) (pv 0) (fun _ _=>rfl)))) rfl xt PyProof.Rows.Boot.«dict» rfl OP ahE))
 (ag (eZ (i:=11) [10] de.nd rfl (abi rfl) rfl (by kernel_rfl) (aN (aJ cZ (aq ax (pv 7) ae (fun _ _=>rfl)) (aq ax (pv 7) ae (fun _ _=>rfl)))) (fun _ _ _ _ _=>bL) (fun _ _ _ _ _=>(ao eE hr.q rfl (aa (pv 0) (aa (pv 1) af)))))
 (ag (az (i:=12) de.nd rfl (abi rfl) (aJ cZ (bI cT (pv 11) di (bB (aq aw (pv 5) ae (fun _ _=>rfl)))) (bI cT (pv 11) (bB (aJ gY (aq aw (pv 5) ae (fun _ _=>rfl)) ae)) di)))
 (ag (aU (aE du (aq aw (pv 5) ae (fun _ _=>rfl)) ae (aQ _))
 (ak (az (i:=12) de.nd rfl (abi rfl) (aJ cZ (pv 12) (bW [10] rfl (by kernel_rfl) (aN (aq ax (pv 7) ae (fun _ _=>rfl))) (fun _ _ _ _ _=>bL) (fun _ _ _ _ _=>(ao eE hr.q rfl (aa (pv 0) (aa (pv 1) af))))))))
 aF)
 (ag (cB M1 rfl (aN (bI cT (pv 0) (bB ae) (bB ae))) (bj (i:=13) de.nd rfl (abi rfl))
 (ak (bp (cU aaN abm abp bz (pv 12) (aa (ao bt hr.q rfl (aa (pv 1) (aa (aq aw (ao aS hr.q rfl (aa (pv 13) (aa (bb (aa ae af)) af))) ae (fun _ _=>rfl)) (aa (pv 9) af)))) af)))))
 (ag (eZ (i:=12) [2,3] de.nd rfl (abi rfl) rfl (by kernel_rfl) (aN (pv 12)) (fun _ _ _ _ _=>bL) (fun _ _ _ _ _=>(ao eE hr.q rfl (aa (pv 0) (aa (Qf (Nc (aq (r:=P0 K) aw (pv 1) ae (fun _ _=>rfl)) (aq (r:=P0 K) aw (pv 2) ae (fun _ _=>rfl)) Qe) rfl rfl (by decide) (by decide)) af)))))
 (ag (az (i:=14) de.nd rfl (abi rfl) (ao nO hr.q rfl (aa (pv 1) (aa (pv 12) (aa (bb (aa (a8 (aa (aq aw (pv 2) ae (fun _ _=>rfl)) (aa (aq aw (pv 2) ae (fun _ _=>rfl)) af))) (aa (a8 (aa (aq aw (pv 2) ae (fun _ _=>rfl)) (aa (aq aw (pv 2) ae (fun _ _=>rfl)) af))) (aa (a8 (aa (aq aw (pv 2) ae (fun _ _=>rfl)) (aa (aq aw (pv 3) ae (fun _ _=>rfl)) af))) af)))) af)))))
 (ag (aU (aE du (aq aw (pv 5) ae (fun _ _=>rfl)) ae (aQ _))
 (ak (az (i:=14) de.nd rfl (abi rfl) (a8 (aa (Ct af) (aa (Ct af) (aa (Ct af) (aa fB af)))))))
 aF)
 (ag (az (i:=15) de.nd rfl (abi rfl) (a8 (aa (aq aw (pv 5) ae (fun _ _=>rfl)) (aa (cy fQ rfl eo PyProof.Rows.Boot.«tuple» (aa (bW [10] rfl (by kernel_rfl) (aN (pv 8)) (fun _ _ _ _ _=>bL) (fun _ _ _ _ _=>(Jk hu (pv 1) (pv 0) (fun _ _=>rfl)))) af)) af))))
 (ag (az (i:=16) de.nd rfl (abi rfl) (Fg tR hr.q rfl (aa (pv 6) (aa (pv 14) (aa (pv 15) af)))))
 (ag (aU (PW.pt (oF (fK (bU (aK Ex rfl fZ ady (aa (pv 16) (aa (IW rfl U7 PyProof.Rows.boot_bool (v:=.ty "bool") rfl) af))))) (mq (aE fE (pv 16) (ao nP hr.q rfl (aa (pv 1) (aa (pv 14) (aa (pv 7) (aa (pv 10) af))))) (aQ _)))))
 (ak (aG fB))
 aF)
 (ak (aG (ao iV hr.q rfl (aa (pv 6) (aa (pv 14) (aa (ao jF hr.q rfl (aa (pv 15) (aa (aq aw (pv 5) ae (fun _ _=>rfl)) (aa (ao cO hr.q rfl (aa (pv 0) (aa ae af))) af)))) af)))))))))))))))))))))))),?_⟩
 try dsimp only [jZ,GP]
 refine hid9 fun _ Yh=>?_
 refine⟨_,rfl,a,cs,rfl,hS,fun t lk ln lw lr ks NS WS rs H1 s1 ht zU hN hW d3 G=>?_⟩
 refine⟨t,_,rfl,ht,rfl,_,_,rfl,_,_,rfl,_,_,rfl,_,_,rfl,rfl,?_⟩
 refine Yh _ _ ?_
 try dsimp only
 refine hid9 fun _ Yh=>?_
 have hG:=G.kg
 have j5:=hG.len
 refine⟨_,rfl,a,cs,6,rfl,s1.seq hS,by decide,fun v6=>⟨(by show 8<=aaj;decide),fun lz b6=>⟨v6,lz,[2,4,4,4,6,8,4,4],rfl,aC.of aj,by decide,by decide,fun ld ds U s2 ZX mf pr=>?_⟩⟩⟩
 have x2:=ah.trans (ai b6 (.lst ([2,4,4,4,6,8,4,4].map V.int))) s2
 have sA:=ah.trans s1 x2
 have zd:=aai pr
 obtain⟨L,qe0,b0⟩:=aM pr (k:=0) rfl
 obtain⟨d4,qe4,b4⟩:=aM pr (k:=4) rfl
 obtain⟨d5,qe5,b5⟩:=aM pr (k:=5) rfl
 obtain⟨d6,qe6,b6⟩:=aM pr (k:=6) rfl
 obtain⟨d7,qe7,b7⟩:=aM pr (k:=7) rfl
 have Ys:∀i,i<3->∃n:Nat,ds[i+1]?=some (n:Int)/\n<4:=fun i hi=>by
  have key:∀m:Int,[2,4,4,4,6,8,4,4][i+1]?=some m->m=4->∃n:Nat,ds[i+1]?=some (n:Int)/\n<4:=fun m hm e=>by
   obtain⟨hk,e'⟩:=aaf.mp hm
   have z:=paired_at pr (i+1) hk (by omega)
   rw [e',e] at z
   refine⟨(ds[i+1]'(by omega)).toNat,?_,by omega⟩
   rw [show(((ds[i+1]'(by omega)).toNat:Nat):Int)=ds[i+1]'(by omega) by omega]
   exact Ge9 _
  rcases(by omega:i=0\/i=1\/i=2) with e|e|e <;> subst e
  ·exact key 4 rfl rfl
  ·exact key 4 rfl rfl
  ·exact key 4 rfl rfl
 refine Yh _ _ ?_
 try dsimp only
 refine hid9 fun _ Y=>?_
 obtain⟨Uw,its,e5,eK,eR⟩:=G.book
 obtain⟨Yt,aej⟩:=G.len
 refine⟨_,rfl,_,rfl,lk,lr,ks,rs,rfl,zU.sm x2,hG,d3.sm x2,G.r2,(fun r hr=>(G.Pp r hr).1),G.few,fun H3 s3=>⟨_,its,rfl,aej,Uw,Yt,e5,fun bv H4 s4 a4=>?_⟩⟩
 rw [eK,eR] at a4
 have e3:=ah.trans s3 s4
 have c6:=ah.trans x2 e3
 have sB:=ah.trans s1 c6
 have zY:=e3 _ _ mf
 obtain⟨oB,h9,prv⟩:=id (d3.sm c6)
 have zr:=aai prv
 have QW:=G.r2
 have b0:L<rs.length:=by omega
 have hX:=paired_at prv L b0 (by omega)
 have Ra:rs[L]∈rs:=aan b0
 have SG:r6 oB (L:Int)=some (oB[L]'(by omega)):=bE (by rw [Ge9])
 refine Y _ _ ?_
 try dsimp only
 refine hid9 fun _ Y=>?_
 refine⟨_,rfl,_,rfl,ld,_,0,_,rfl,rfl,aC.of zY,qe0,lr,_,_,_,rfl,rfl,aC.of h9,SG,?_⟩
 have Sd:=Cu b0
 have hD:=G.rd _ Ra
 have VH:=G.few _ Ra
 have h3:=G.UD Ra
 have aem:=(G.Pp _ (acm Sd)).1
 generalize ZK:rs[L]=r at hX Ra Sd hD VH h3 aem
 generalize oB[L]'(by omega)=rq at hX SG ⊢
 obtain⟨tr,ra,rb,rl,rg,rp,rfl,Mx,hA,c8,i9,B,Yb⟩:=id hX
 obtain⟨fw1,fw2,fw3,fw4,fw5⟩:=id VH
 have nkS:∀n∈NS.take 3++WS,uY n:=fun n hn=>by
  rcases aaq.mp hn with z|z
  ·exact G.QR n (aax _ (abT z))
  ·exact G.QR n (aak _ z)
 have okT:∀f∈r.take,Bv f:=fun f J=>Bv.of hG (fun k hk=>(ab1.mp hk).1) nkS (hD.take f J)
 have okK:∀f∈r.keep,Bv f:=fun f J=>Bv.of hG (fun k hk=>hk) nkS (hD.keep f J)
 have Cj:∀n∈opens (r.take++r.keep)++WS,uY n:=fun n hn=>by
  rcases aaq.mp hn with z|z
  ·obtain⟨⟨g,B,Xp⟩,_⟩:=wQ (iz _) z
   rcases aaq.mp B with y|y
   ·exact(okT g y).2.2 n Xp
   ·exact(okK g y).2.2 n Xp
  ·exact G.QR n (aak _ z)
 have okP:∀f∈r.put,Bv f:=fun f J=>Bv.of hG (fun k hk=>by
  split at hk
  ·exact(ab1.mp hk).1
  ·exact hk) Cj (hD.put f J)
 have Rb:∀f∈r.take++r.keep,Bv f:=fun f J=>by
  rcases aaq.mp J with z|z
  ·exact okT f z
  ·exact okK f z
 obtain⟨av,SI,Yo⟩:=id hA
 obtain⟨bv2,UZ,Yp⟩:=id c8
 have za:=aai Yo
 have zb:=aai Yp
 refine Y _ _ ?_
 try dsimp only
 refine hid9 fun _ Y=>?_
 refine⟨_,rfl,tr,_,0,_,rfl,rfl,Mx,rfl,_,rfl,tr,_,1,_,rfl,rfl,Mx,rfl,ra,rb,_,_,rfl,rfl,SI,UZ,(oq za zb fw1 fw2),fun l1 mj=>?_⟩
 have x5:=ai mj (.lst (av++bv2))
 have y5:=aW x5
 have pf5:Paired (Fact K (upd H4 l1 (.lst (av++bv2)))) (r.take++r.keep) (av++bv2):=L2.Paired.bA (bx Yo Yp) fun _ _ z=>z.keep (Kp.same (H0:=H4) x5)
 generalize upd H4 l1 _=H5 at x5 y5 pf5 ⊢
 refine⟨l1,r.take++r.keep,rfl,⟨_,y5,pf5⟩,(by rw [aab];exact oq rfl rfl fw1 fw2),(fun f J=>⟨(Rb f J).2.1,(Rb f J).2.2⟩),fun lm H6 s6 k0 hM=>?_⟩
 have a3:=ah.trans x5 s6
 have c7:=ah.trans c6 a3
 have sC:=ah.trans sB a3
 refine Y _ _ ?_
 try dsimp only
 refine hid9 fun _ Y=>?_
 have d0:=c7 _ _ hN
 have d5:=c7 _ _ hW
 have n4:=G.n4
 have w2:=G.w2
 refine⟨_,rfl,_,rfl,_,rfl,_,rfl,ln,_,rfl,aC.of d0,fun l2 gW=>?_⟩
 have cN:∀m:Nat,m<=3->fI (NS.map tx) (some 1) (some ((1:Int)+(m:Int)))=((NS.drop 1).take m).map tx:=fun m hm=>by
  rw [JS (by rw [Lm9];omega),agd,ahh]
 have okN:∀m:Nat,∀x∈(NS.drop 1).take m,uY x:=fun m x O=>G.QR x (aax _ (aeF (abT O)))
 rw [show(some (3:Int))=some ((1:Int)+((2:Nat):Int)) from rfl,cN 2 (by decide)]
 have x7:=ai gW (.lst (((NS.drop 1).take 2).map tx))
 have y7:=aW x7
 have d6:=x7 _ _ d5
 generalize upd H6 l2 _=H7 at x7 y7 d6 ⊢
 refine⟨lw,l2,_,_,rfl,rfl,d6,y7,(by rw [Lm9,Lm9,aat,abO,n4,w2];decide),fun l3 Bx=>?_⟩
 rw [<- aau]
 have x8:=ai Bx (.lst ((WS++(NS.drop 1).take 2).map tx))
 have y8:=aW x8
 have VM:=ah.trans x7 x8
 generalize upd H7 l3 _=H8 at x8 y8 VM ⊢
 refine Y _ _ ?_
 try dsimp only
 refine fO (Good:=fun σ' H'=>ah H6 H'/\∃(lp:aay) (rp:List Cs),H' lp=some (.lst (rp.map tx))/\rp.length=4/\(∀x∈rp,uY x)/\σ'=[some (.ref a),some (.ref lk),some (.ref ln),some (.ref lw),some (.ref lr),some (.ref ld),some bv,some (.ref tr),some (.ref lm),some (.ref lp),none,none,none,none,none,none,none]) (fun _ fin=>?_) (fun σ' H9 B=>?_)
 ·refine⟨_,rfl,ld,_,7,_,rfl,rfl,aC.of (VM _ _ (a3 _ _ zY)),qe7,rfl,_,rfl,?_⟩
  refine dQ (fun _=>?_) (fun _=>?_)
  ·have g1:=VM _ _ d0
   refine⟨_,rfl,_,rfl,_,rfl,ln,_,rfl,aC.of g1,fun l4 OK=>?_⟩
   rw [show(some (4:Int))=some ((1:Int)+((3:Nat):Int)) from rfl,cN 3 (by decide)]
   have xA:=ai OK (.lst (((NS.drop 1).take 3).map tx))
   have yA:=aW xA
   have d7:=xA _ _ (VM _ _ d5)
   generalize upd H8 l4 _=HA at xA yA d7 ⊢
   refine⟨_,rfl,_,rfl,lw,_,rfl,aC.of d7,fun l5 Gz=>?_⟩
   rw [show(some (1:Int))=some ((1:Nat):Int) from rfl,kC (by rw [Lm9];omega),<- agd]
   have xB:=ai Gz (.lst ((WS.take 1).map tx))
   have yB:=aW xB
   have yAB:=xB _ _ yA
   generalize upd HA l5 _=HB at xB yB yAB ⊢
   refine⟨l4,l5,_,_,rfl,rfl,yAB,yB,(by rw [Lm9,Lm9,aat,aat,abO,n4,w2];decide),fun l6 Lf=>?_⟩
   rw [<- aau]
   have xC:=ai Lf (.lst (((NS.drop 1).take 3++WS.take 1).map tx))
   refine fin _ _ ⟨ah.trans VM (ah.trans xA (ah.trans xB xC)),l6,_,aj,?_,fun x O=>?_,rfl⟩
   ·rw [aab,aat,aat,abO,n4,w2];rfl
   ·rcases aaq.mp O with z|z
    ·exact okN 3 x z
    ·exact G.QR x (aak _ (abT z))
  ·refine fin _ _ ⟨VM,l3,_,y8,?_,fun x O=>?_,rfl⟩
   ·rw [aab,aat,abO,n4,w2];rfl
   ·rcases aaq.mp O with z|z
    ·exact G.QR x (aak _ z)
    ·exact okN 2 x z
 obtain⟨Yu,lp,rp,d2,rp4,rpN,rfl⟩:=B
 have ez:=ah.trans a3 Yu
 have i8:=ah.trans c7 Yu
 have sD:=ah.trans sC Yu
 have a5:=Yu _ _ hM
 have f4:=ez _ _ zY
 have zds:(ds.map V.int).length=8:=by rw [Lm9,<- zd];rfl
 have h8:(opens (r.take++r.keep)).length<=3:=h3
 generalize hm:(opens (r.take++r.keep)).length=m at h8
 refine hid9 fun _ Yh=>?_
 refine⟨_,rfl,_,rfl,_,rfl,_,rfl,lm,_,rfl,.inl (aC.of a5),?_⟩
 rw [Lm9,hm]
 refine⟨_,_,rfl,rfl,_,rfl,ld,_,rfl,aC.of f4,fun l9 h7=>?_⟩
 have UK:fI (ds.map V.int) (some 1) (some ((1:Int)+(m:Int)))=((ds.drop 1).take m).map V.int:=by
  rw [JS (by omega),agd,ahh]
 rw [UK]
 have xA:=ai h7 (.lst (((ds.drop 1).take m).map V.int))
 have yA:=aW xA
 have Yv:=xA _ _ d2
 generalize upd H9 l9 _=HA at xA yA Yv ⊢
 have alV:ds.length=8:=by rw [Lm9] at zds;exact zds
 have Ll:((ds.drop 1).take m).length=m:=by rw [aat,abO,alV];exact Nat.min_eq_left (Nat.le_trans h8 (by decide))
 refine⟨l9,rfl,⟨_,aC.of yA⟩,fun D e9=>?_⟩
 generalize c1:((ds.drop 1).take m).map (fun i:Int=>rp.getD i.toNat [])=vs
 have zvs:vs.length=m:=by rw [<- c1,Lm9];exact Ll
 have Yw:∀v∈vs,v∈rp:=fun v Z=>by
  rw [<- c1] at Z
  obtain⟨i,hi,rfl⟩:=aaw.mp Z
  obtain⟨k,hk,ek⟩:=agw hi
  rw [Ll] at hk
  obtain⟨n,en,VD⟩:=Ys k (by omega)
  have e:((ds.drop 1).take m)[k]?=some (n:Int):=by
   rw [agR,if_pos hk,agb,Nat.add_comm]
   exact en
  rw [Ge9 (by rw [Ll];exact hk),ek] at e
  obtain rfl:i=(n:Int):=abA e
  rw [acv,Gd9,Ge9 (by omega)]
  exact aan _
 refine Fj (K:=K) (xs:=((ds.drop 1).take m).map V.int) (gs:=vs.map tx) (by rw [Lm9,Lm9,zvs,Ll]) (jg (by rw [Lm9,Ll];omega)) e9 (aC.of yA) (fun i x g H' R O B sm hQ=>?_) (fun HB sB9 f2=>?_)
 ·obtain⟨hi,ex⟩:=aA O
  rw [Lm9,Ll] at hi
  obtain⟨n,en,VD⟩:=Ys i (Nat.lt_of_lt_of_le hi h8)
  have e:((ds.drop 1).take m)[i]?=some (n:Int):=by
   rw [agR,if_pos hi,agb,Nat.add_comm]
   exact en
  rw [abc,e] at O
  obtain rfl:V.int (n:Int)=x:=abA O
  have eg:g=tx (rp[n]'(by omega)):=by
   rw [<- c1,abc,abc,e] at B
   have z:=(abA B).symm
   rw [z]
   show tx (rp.getD ((n:Int)).toNat [])=_
   rw [acv,Gd9,Ge9 (by omega)]
   rfl
  refine⟨_,rfl,_,rfl,lp,_,_,_,rfl,rfl,aC.of (sm _ _ Yv),bE (j:=n) (v:=tx (rp[n]'(by omega))) (by rw [abc,Ge9 (by omega)];rfl),?_⟩
  rw [<- eg]
  exact hQ _ (ah.refl _)
 have x9B:=ah.trans xA sB9
 have hlen:vs.length=(opens (r.take++r.keep)).length:=by rw [zvs,hm]
 refine⟨lm,D,vs.map tx,(b8 r vs).map fJ,rfl,rfl,aC.of (by rw [JQ hlen];exact x9B _ _ a5),.inl (aC.of f2),Ov hlen,?_,fun dv h6=>?_⟩
 ·rw [Lm9]
  have:=Fz (r:=r) (ns:=vs)
  omega
 rw [xa hlen]
 have xC:=ai h6 (.dK ((b8 r vs).map fJ))
 have yC:=aW xC
 have U8:=ah.trans x9B xC
 generalize upd HB dv _=HC at xC yC U8 ⊢
 have Yx:=ah.trans ez U8
 have x1C:=ah.trans i8 U8
 have sE:=ah.trans sD U8
 have vsN:∀v∈(b8 r vs).map (·.2),uY v:=fun v Z=>rpN v (Yw v (JR Z))
 refine Yh _ _ ?_
 try dsimp only
 refine hid9 fun _ Y=>?_
 obtain⟨av6,aex,Yy⟩:=id (hA.sm Yx)
 obtain⟨bv6,aey,Yz⟩:=id (c8.sm Yx)
 have za6:=aai Yy
 have zb6:=aai Yz
 refine⟨_,rfl,tr,_,0,_,rfl,rfl,Mx.same Yx,rfl,_,rfl,tr,_,1,_,rfl,rfl,Mx.same Yx,rfl,ra,rb,_,_,rfl,rfl,aex,aey,(oq za6 zb6 fw1 fw2),fun c3 aeA=>?_⟩
 have xD:=ai aeA (.lst (av6++bv6))
 have yD:=aW xD
 have pfD:Paired (Fact K (upd HC c3 (.lst (av6++bv6)))) (r.take++r.keep) (av6++bv6):=L2.Paired.bA (bx Yy Yz) fun _ _ z=>z.keep (Kp.same (H0:=HC) xD)
 have yCD:=xD _ _ yC
 generalize upd HC c3 _=HD at xD yD pfD yCD ⊢
 have zfD:=aai pfD
 refine⟨c3,rfl,⟨_,aC.of yD⟩,fun D5 UX=>?_⟩
 refine cq (K:=K) (xs:=av6++bv6) (ay (b8 r vs) r) (fun _ H' g y=>Fact K H' g y) (fun _ _ _ _ _ k h=>h.keep k) (fun _ _ _ _ _ _ h=>h) (jg (by rw [aab];exact oq za6 zb6 fw1 fw2)) UX (aC.of yD) (by rw [<- zfD,ay,Lm9]) (fun i y b H' R hy hb sm hQ=>?_) (fun HE VN sE9 VG poE=>?_)
 ·obtain⟨hi,ey⟩:=aA hy
  obtain⟨cH,eb⟩:=aA hb
  have FO:i<(r.take++r.keep).length:=by rw [ay,Lm9] at cH;exact cH
  have eb:wr (b8 r vs) (r.take++r.keep)[i]=b:=by rw [<- eb];exact(aaO (l:=r.take++r.keep) (wr (b8 r vs))).symm
  have hF:=paired_at pfD i FO hi
  rw [ey] at hF
  have o4:=(Rb _ (aan FO)).2.1
  exact⟨_,rfl,_,rfl,dv,y,b8 r vs,_,rfl,sm _ _ yCD,hF.keep (Kp.same (H0:=H') sm),(by omega),fun v' jc vR Z=>hQ _ _ vR (by rw [<- eb];exact Z.fact)⟩
 have U9:=ah.trans xD sE9
 have sF:=ah.trans sE U9
 have x4E:=ah.trans Yx U9
 have x1E:=ah.trans x1C U9
 refine Y _ _ ?_
 try dsimp only
 refine hid9 fun _ Y=>?_
 have Va:HE ld=some (.lst (ds.map V.int)):=x4E _ _ zY
 have okH:∀f∈ay (b8 r vs) r,Bv f:=fun f J=>by
  obtain⟨g,B,rfl⟩:=aaw.mp J
  exact(Rb g B).wr vsN
 have zh:(ay (b8 r vs) r).length<=4:=by rw [ay,Lm9,aab];exact oq rfl rfl fw1 fw2
 refine⟨_,rfl,_,rfl,ld,_,4,_,rfl,rfl,aC.of Va,qe4,_,rfl,D5,_,rfl,aC.of VG,fun c4 aeE=>?_⟩
 obtain⟨Ik,pc1,in1,lc1⟩:=xb poE none (some (d4:Int))
 have xF:=ai aeE (.lst (fI VN none (some (d4:Int))))
 have yF:=aW xF
 have pcF:Paired (Fact K (upd HE c4 (.lst (fI VN none (some (d4:Int)))))) Ik (fI VN none (some (d4:Int))):=L2.Paired.bA pc1 fun _ _ z=>z.keep (Kp.same (H0:=HE) xF)
 have zc1:=aai pc1
 generalize fI VN none (some (d4:Int))=cv1 at xF yF pcF zc1 ⊢
 generalize upd HE c4 _=HF at xF yF pcF ⊢
 refine⟨_,rfl,_,rfl,ld,_,4,_,rfl,rfl,aC.of (xF _ _ Va),qe4,_,_,rfl,rfl,_,rfl,D5,_,rfl,aC.of (xF _ _ VG),fun e1 aeG=>?_⟩
 obtain⟨fs2,pc2,in2,lc2⟩:=xb poE (some ((d4:Int)+1)) none
 have zc2:=aai pc2
 have xG:=ai aeG (.lst (fI VN (some ((d4:Int)+1)) none))
 have yG:=aW xG
 have yFG:=xG _ _ yF
 have xFG:=ah.trans xF xG
 generalize fI VN (some ((d4:Int)+1)) none=cv2 at xG yG pc2 zc2 yFG xFG ⊢
 generalize upd HF e1 _=HG at xG yG yFG xFG ⊢
 refine⟨c4,e1,_,_,rfl,rfl,yFG,yG,(oq5 lc1 zc1 lc2 zc2 zh),fun YA YB=>?_⟩
 have xH:=ai YB (.lst (cv1++cv2))
 have yH:=aW xH
 have SN:=ah.trans xFG xH
 have pH:Paired (Fact K (upd HG YA (.lst (cv1++cv2)))) (Ik++fs2) (cv1++cv2):=bx (L2.Paired.bA pcF fun _ _ z=>z.keep (Kp.same (H0:=HF) (ah.trans xG xH))) (L2.Paired.bA pc2 fun _ _ z=>z.keep (Kp.same (H0:=HE) SN))
 have Eg:∀f∈Ik++fs2,Bv f:=fun f J=>by
  rcases aaq.mp J with z|z
  ·exact okH f (in1 f z)
  ·exact okH f (in2 f z)
 have frH:HE YA=none:=xFG.free YB
 generalize upd HG YA _=HH at xH yH SN pH ⊢
 have yCE:=U9 _ _ yC
 refine Y _ _ ?_
 try dsimp only
 refine fO (Good:=fun σ' H'=>ah HE H'/\∃(lf:aay) (fv:List V) (fs:List Fc),H' lf=some (.lst fv)/\Paired (Fact K H') fs fv/\HE lf=none/\fs.length<=10/\(∀f∈fs,Bv f)/\σ'=[some (.ref a),some (.ref lk),some (.ref ln),some (.ref lw),some (.ref lr),some (.ref ld),some bv,some (.ref tr),some (.ref lm),some (.ref lp),some (.ref dv),some (.ref D5),some (.ref lf),none,none,none,none]) (fun _ fin=>?_) (fun σ' HI B=>?_)
 ·refine⟨_,rfl,ld,_,5,_,rfl,rfl,aC.of (SN _ _ Va),qe5,rfl,_,rfl,?_⟩
  refine dQ (fun _=>?_) (fun _=>?_)
  ·have x4H:=ah.trans x4E SN
   obtain⟨gv,U2,VL⟩:=id (B.sm x4H)
   have zg:=aai VL
   refine⟨_,rfl,_,rfl,tr,_,3,_,rfl,rfl,Mx.same x4H,rfl,rg,rfl,⟨_,aC.of U2⟩,fun D6 UY=>?_⟩
   refine cq (K:=K) (xs:=gv) (r.put.map (wr (b8 r vs))) (fun _ H' g y=>Fact K H' g y) (fun _ _ _ _ _ k h=>h.keep k) (fun _ _ _ _ _ _ h=>h) (jg (by omega)) UY (aC.of U2) (by rw [Lm9];exact zg) (fun i y b H' R hy hb sm hQ=>?_) (fun HJ ysJ sJ f5 poJ=>?_)
   ·obtain⟨hi,ey⟩:=aA hy
    obtain⟨cH,eb⟩:=aA hb
    rw [Lm9] at cH
    rw [aaO] at eb
    have hF:=paired_at VL i cH hi
    rw [ey] at hF
    have o4:=(okP _ (aan cH)).2.1
    exact⟨_,rfl,_,rfl,dv,y,b8 r vs,_,rfl,sm _ _ (SN _ _ yCE),hF.keep (Kp.same (H0:=H') sm),(by omega),fun v' jc vR Z=>hQ _ _ vR (by rw [<- eb];exact Z.fact)⟩
   have zJ:=aai poJ
   have zw:(r.put.map (wr (b8 r vs))).length=r.put.length:=Lm9 _
   refine⟨YA,D6,_,_,rfl,rfl,sJ _ _ yH,f5,(by rw [aab];exact oq6 (oq5 lc1 zc1 lc2 zc2 zh) zJ zw fw4),fun i7 YC=>?_⟩
   have xK:=ai YC (.lst (cv1++cv2++ysJ))
   refine fin _ _ ⟨ah.trans SN (ah.trans sJ xK),i7,_,(Ik++fs2)++r.put.map (wr (b8 r vs)),aj,bx (L2.Paired.bA pH fun _ _ z=>z.keep (Kp.same (H0:=HH) (ah.trans sJ xK))) (L2.Paired.bA poJ fun _ _ z=>z.keep (Kp.same (H0:=HJ) xK)),(ah.trans SN sJ).free YC,?_,fun f J=>?_,rfl⟩
   ·rw [aab,aab,zw];exact oq6 (oq5 lc1 rfl lc2 rfl zh) rfl rfl fw4
   ·rcases aaq.mp J with z|z
    ·exact Eg f z
    ·obtain⟨g,B,rfl⟩:=aaw.mp z
     exact(okP g B).wr vsN
  ·exact fin _ _ ⟨SN,YA,_,_,yH,pH,frH,by rw [aab];exact oq5 lc1 rfl lc2 rfl zh,Eg,rfl⟩
 obtain⟨xEI,lf,fv,fs0,QX,pfv,Ph,al9,okf,rfl⟩:=B
 have sI:=ah.trans sF xEI
 refine⟨_,rfl,_,rfl,_,rfl,a,_,rfl,sI.seq hS,fun ls Sy=>?_⟩
 obtain⟨cs2,ecs,amb⟩:=U5 cs
 rw [ecs]
 have xJ:=ai Sy (.lst (cs2.map V.int))
 have yJ:=aW xJ
 have nlf:lf≠ls:=fun e=>by rw [e,Sy] at QX;cases QX
 have Vb:=xJ _ _ QX
 have pfJ:Paired (Fact K (upd HI ls (.lst (cs2.map V.int)))) fs0 fv:=L2.Paired.bA pfv fun _ _ z=>z.keep (Kp.same (H0:=HI) xJ)
 have xEJ:=ah.trans xEI xJ
 generalize upd HI ls _=HJ at xJ yJ Vb pfJ xEJ ⊢
 refine⟨ls,rfl,⟨_,aC.of yJ⟩,?_⟩
 have x6E:=ah.trans Yu (ah.trans U8 U9)
 have aeM:HE lp=some (.lst (rp.map tx)):=(ah.trans U8 U9) _ _ d2
 have aeN:pL K HE lk ks:=zU.sm x1E
 refine bR (K:=K) (a:=ls) (xs:=cs2.map V.int) (fun i σ H'=>ah HE H'/\H' ls=some (.lst (cs2.map V.int))/\∃(fv:List V) (fs:List Fc),H' lf=some (.lst fv)/\Paired (Fact K H') fs fv/\fs.length<=10+i/\(∀f∈fs,Bv f)/\∃a2,σ=[some (.ref a),some (.ref lk),some (.ref ln),some (.ref lw),some (.ref lr),some (.ref ld),some bv,some (.ref tr),some (.ref lm),some (.ref lp),some (.ref dv),some (.ref D5),some (.ref lf),a2,none,none,none]) ⟨xEJ,yJ,fv,fs0,Vb,pfJ,by omega,okf,none,rfl⟩ (fun i σ H' _ z=>aC.of z.2.1) ?_ ?_
 ·rintro i y σ H' hi ⟨sm,aeO,fv,fs,YD,YE,j4,aeP,a2,rfl⟩
  have amd:i<30:=by
   have z:=(aaf.mp hi).1
   rw [Lm9] at z
   omega
  rw [abc] at hi
  obtain⟨cv,_,rfl⟩:=adG.mp hi
  refine aL ?_
  dsimp only
  have zfv:=aai YE
  refine⟨_,rfl,.inl ⟨rfl,_,aC.of YD⟩,_,rfl,_,rfl,(by show 1<=aaj;decide),fun lz b6=>⟨cv,lz,[1024],rfl,aC.of aj,by decide,by decide,fun lq dq Hq sq ZW f9 prq=>?_⟩⟩
  have xq:=ah.trans (ai b6 (.lst ([1024].map V.int))) sq
  obtain⟨q0,eq0,bq0⟩:=aM prq (k:=0) rfl
  refine⟨lq,_,0,_,rfl,rfl,aC.of f9,eq0,_,rfl,lk,lp,_,ks,rp,rfl,aeN.sm (ah.trans sm xq),by omega,by omega,(fun k hk=>(hG.ok k hk).2),xq _ _ (sm _ _ aeM),by omega,by omega,fun v g U s2 hF hO=>?_⟩
  have xq2:=ah.trans xq s2
  have O0:=xq2 _ _ YD
  refine⟨lf,_,_,rfl,rfl,O0,(by rw [aaz];omega),?_⟩
  refine⟨ah.ba (ah.trans sm xq2) Ph _,(by rw [aD (aea nlf)];exact xq2 _ _ aeO),_,fs++[g],aj,bx (L2.Paired.bA YE fun _ _ z=>(z.keep (Kp.same (H0:=H') xq2)) |> fun⟨t,t2,e,z1,z2⟩=>⟨t,t2,e,cu O0 z1,cu O0 z2⟩) (.cons (hF |> fun⟨t,t2,e,z1,z2⟩=>⟨t,t2,e,cu O0 z1,cu O0 z2⟩) .nil),by rw [aab];show _+1<=_;omega,fun f J=>?_,_,rfl⟩
  rcases aaq.mp J with z|z
  ·exact aeP f z
  ·rw [aap.mp z]
   exact Bv.of hG (fun k hk=>hk) rpN hO
 rintro σ HK ⟨YF,amh,fvK,VO,YG,pfK,aeQ,YH,a2,rfl⟩
 rw [Lm9] at aeQ
 clear Vb pfJ yJ xJ xEJ pfv QX okf
 have zfK:=aai pfK
 have x1K:=ah.trans x1E YF
 have x4K:=ah.trans x4E YF
 have sK:=ah.trans sF YF
 have g2:=x1K _ _ hN
 have h3:=x1K _ _ hW
 refine⟨_,rfl,lf,rfl,⟨_,aC.of YG⟩,fun D7 e7=>?_⟩
 obtain⟨n3,b7,aeU⟩:∃n,NS[3]?=some n/\n∈NS:=⟨_,Ge9 (by omega),aan _⟩
 obtain⟨w0,c2,YI⟩:∃n,WS[0]?=some n/\n∈WS:=⟨_,Ge9 (by omega),aan _⟩
 have wN:∀v∈([(n3,w0)]:uw).map (·.2),uY v:=fun v Z=>by
  rw [aap.mp Z]
  exact G.QR w0 (aak _ YI)
 refine cq (K:=K) (xs:=fvK) (VO.map (wr [(n3,w0)])) (fun _ H' g y=>Fact K H' g y) (fun _ _ _ _ _ k h=>h.keep k) (fun _ _ _ _ _ _ h=>h) (jg (by omega)) e7 (aC.of YG) (by rw [Lm9];exact zfK) (fun i y b H' R hy hb sm hQ=>?_) (fun HL ysL sL Ya poL=>?_)
 ·obtain⟨hi,ey⟩:=aA hy
  obtain⟨cH,eb⟩:=aA hb
  rw [Lm9] at cH
  rw [aaO] at eb
  have hF:=paired_at pfK i cH hi
  rw [ey] at hF
  have o4:=(YH _ (aan cH)).2.1
  refine⟨_,rfl,fun pd e0=>?_⟩
  have xp:=ai e0 (.dK [])
  have at3:r6 (NS.map tx) 3=some (tx n3):=bE (j:=3) (by rw [abc,b7];rfl)
  have at0:r6 (WS.map tx) 0=some (tx w0):=bE (j:=0) (by rw [abc,c2];rfl)
  refine⟨_,rfl,ln,_,3,_,rfl,rfl,aC.of (xp _ _ (sm _ _ g2)),at3,_,rfl,lw,_,0,_,rfl,rfl,aC.of (xp _ _ (sm _ _ h3)),at0,aj,[fJ (n3,w0)],rfl,by simp,?_⟩
  have xz:ah H' (upd (upd H' pd (.dK [])) pd (.dK (cR [] [fJ (n3,w0)]))):=ah.ba xp e0 _
  refine⟨pd,y,[(n3,w0)],VO[i],rfl,aj,hF.keep (Kp.same (H0:=HK) (ah.trans sm xz)),by omega,fun v' jc vR Z=>hQ _ _ (ah.trans xz vR) (by rw [<- eb];exact Z.fact)⟩
 have zL:=aai poL
 have okL:∀f∈VO.map (wr [(n3,w0)]),Bv f:=fun f J=>by
  obtain⟨g,B,rfl⟩:=aaw.mp J
  exact(YH g B).wr wN
 have zwL:(VO.map (wr [(n3,w0)])).length=VO.length:=Lm9 _
 have x1L:=ah.trans x1K sL
 have x4L:=ah.trans x4K sL
 have sL':=ah.trans sK sL
 have a6:=x1L _ _ hN
 have h4:=x1L _ _ hW
 refine aL ?_
 dsimp only
 refine hid9 fun _ Y=>?_
 have Ec:NS[1]?=some (NS[1]'(by omega)):=Ge9 _
 have GI:NS[2]?=some (NS[2]'(by omega)):=Ge9 _
 generalize NS[1]'(by omega)=n1 at Ec
 generalize NS[2]'(by omega)=n2 at GI
 have at1:r6 (NS.map tx) 1=some (tx n1):=bE (j:=1) (by rw [abc,Ec];rfl)
 have at2:r6 (NS.map tx) 2=some (tx n2):=bE (j:=2) (by rw [abc,GI];rfl)
 have at3:r6 (NS.map tx) 3=some (tx n3):=bE (j:=3) (by rw [abc,b7];rfl)
 have at0:r6 (WS.map tx) 0=some (tx w0):=bE (j:=0) (by rw [abc,c2];rfl)
 refine⟨_,rfl,_,rfl,_,rfl,ln,_,1,_,rfl,rfl,aC.of a6,at1,_,rfl,ln,_,1,_,rfl,rfl,aC.of a6,at1,(by show 2<=aaj;decide),fun ta i0=>?_⟩
 have xM:=ai i0 (.tup [tx n1,tx n1])
 have yM:=aW xM
 have a1:=xM _ _ a6
 generalize upd HL ta _=HM at xM yM a1 ⊢
 refine⟨_,rfl,ln,_,2,_,rfl,rfl,aC.of a1,at2,_,rfl,ln,_,2,_,rfl,rfl,aC.of a1,at2,(by show 2<=aaj;decide),fun tb i3=>?_⟩
 have xN:=ai i3 (.tup [tx n2,tx n2])
 have yN:=aW xN
 have d1:=xN _ _ a1
 have yMN:=xN _ _ yM
 have xLN:=ah.trans xM xN
 generalize upd HM tb _=HN at xN yN d1 yMN xLN ⊢
 refine⟨_,rfl,ln,_,3,_,rfl,rfl,aC.of d1,at3,_,rfl,lw,_,0,_,rfl,rfl,aC.of (xLN _ _ h4),at0,(by show 2<=aaj;decide),fun tc i4=>?_⟩
 have xO:=ai i4 (.tup [tx n3,tx w0])
 have yO:=aW xO
 have yMO:=xO _ _ yMN
 have yNO:=xO _ _ yN
 have xLO:=ah.trans xLN xO
 generalize upd HN tc _=HO' at xO yO yMO yNO xLO ⊢
 refine⟨(by show 3<=aaj;decide),fun lpr aeZ=>?_⟩
 have xP:=ai aeZ (.lst [V.ref ta,V.ref tb,V.ref tc])
 have yP:=aW xP
 have Rc:=ah.trans xLO xP
 have prP:Cp K (upd HO' lpr (.lst [V.ref ta,V.ref tb,V.ref tc])) lpr [(n1,n1),(n2,n2),(n3,w0)]:=⟨_,yP,.cons ⟨ta,rfl,bH.of (xP _ _ yMO)⟩ (.cons ⟨tb,rfl,bH.of (xP _ _ yNO)⟩ (.cons ⟨tc,rfl,bH.of (xP _ _ yO)⟩ .nil))⟩
 generalize upd HO' lpr _=HP at xP yP Rc prP ⊢
 refine⟨lk,D7,lpr,ks,VO.map (wr [(n3,w0)]),_,rfl,zU.sm (ah.trans x1L Rc),by omega,⟨_,Rc _ _ Ya,L2.Paired.bA poL fun _ _ z=>z.keep (Kp.same (H0:=HL) Rc)⟩,(by rw [zwL];omega),(fun f J=>(okL f J).fs),prP,by simp,fun pv0 ae0 ae1 HQ sQ g3=>?_⟩
 have x4Q:=ah.trans x4L (ah.trans Rc sQ)
 have x1Q:=ah.trans x1L (ah.trans Rc sQ)
 have sQ':=ah.trans sL' (ah.trans Rc sQ)
 have yCQ:HQ dv=some (.dK ((b8 r vs).map fJ)):=(ah.trans YF (ah.trans sL (ah.trans Rc sQ))) _ _ yCE
 have g0:HQ lm=some (.lst ((opens (r.take++r.keep)).map tx)):=(ah.trans U8 (ah.trans U9 (ah.trans YF (ah.trans sL (ah.trans Rc sQ))))) _ _ a5
 have f6:=x4Q _ _ zY
 refine Y _ _ ?_
 try dsimp only
 refine fO (Good:=fun σ' H'=>ah HQ H'/\∃(pq:V) (dM cf:List Fc) (b:Bool),qN K H' pq dM cf b/\σ'=[some (.ref a),some (.ref lk),some (.ref ln),some (.ref lw),some (.ref lr),some (.ref ld),some bv,some (.ref tr),some (.ref lm),some (.ref lp),some (.ref dv),some (.ref D5),some (.ref D7),a2,some pq,none,none]) (fun _ fin=>?_) (fun σ' HR B=>?_)
 ·refine⟨_,rfl,ld,_,5,_,rfl,rfl,aC.of f6,qe5,rfl,_,rfl,?_⟩
  refine dQ (fun _=>?_) (fun _=>fin _ _ ⟨ah.refl _,pv0,ae0,ae1,false,g3,rfl⟩)
  have z0:0<=aaj:=by decide
  refine⟨z0,fun t0 i0 n0 VJ K7=>⟨z0,fun t1 i1 n1' sl1 zj=>⟨z0,fun t2 i2 n2' Jc qJ=>⟨(by show 4<=aaj;decide),fun tp i5=>?_⟩⟩⟩⟩
  have p0:=ai K7 (.jY ⟨.type "tuple",none,.seq i0 n0,VJ⟩ (.tup []))
  have r0:=aW p0
  have p1:=ai zj (.jY ⟨.type "tuple",none,.seq i1 n1',sl1⟩ (.tup []))
  have r1:=aj (H:=upd HQ t0 (.jY ⟨.type "tuple",none,.seq i0 n0,VJ⟩ (.tup []))) (a:=t1) (o:=.jY ⟨.type "tuple",none,.seq i1 n1',sl1⟩ (.tup []))
  have p2:=ai qJ (.jY ⟨.type "tuple",none,.seq i2 n2',Jc⟩ (.tup []))
  have p3:=ai i5 (.tup [V.ref t0,V.ref t1,V.ref t2,V.bl true])
  have e2:=ah.trans p2 p3
  have c5:=ah.trans p1 e2
  exact fin _ _ ⟨ah.trans p0 c5,.ref tp,[],[],true,⟨tp,t0,t1,_,[],[],rfl,bH.of aj,.inl (.inr ⟨_,c5 _ _ r0⟩),.nil,.inl (.inr ⟨_,e2 _ _ r1⟩),.nil,.inl ⟨[],i0,n0,VJ,c5 _ _ r0⟩⟩,rfl⟩
 obtain⟨YJ,pq,dM,cf,b,a7,rfl⟩:=B
 have x4R:=ah.trans x4Q YJ
 have x1R:=ah.trans x1Q YJ
 have sR:=ah.trans sQ' YJ
 have yCR:=YJ _ _ yCQ
 have c9:=YJ _ _ g0
 have f7:=x4R _ _ zY
 refine⟨_,rfl,ld,_,0,_,rfl,rfl,aC.of f7,qe0,_,rfl,lm,rfl,⟨_,aC.of c9⟩,fun D8 e8=>?_⟩
 have zo:((opens (r.take++r.keep)).map tx).length=m:=by rw [Lm9,hm]
 refine Fj (K:=K) (xs:=(opens (r.take++r.keep)).map tx) (gs:=vs.map tx) (by rw [Lm9,zvs,zo]) (jg (by omega)) e8 (aC.of c9) (fun i x g H' R O B sm hQ=>?_) (fun HS sS f3=>?_)
 ·rw [abc] at O B
  obtain⟨nm,qQ,rfl⟩:=adG.mp O
  obtain⟨v,Z,rfl⟩:=adG.mp B
  have M0:(nm,v)∈b8 r vs:=by
   unfold b8
   refine List.mem_iff_getElem?.mpr ⟨i,?_⟩
   rw [List.getElem?_zip_eq_some]
   exact⟨qQ,Z⟩
  have h5:KQ (b8 r vs) nm=some v:=N5 (by rw [tw hlen];exact mQ _) M0
  have Q2:bM ((b8 r vs).map fJ) (abx (S nm):Key)=some (tx v):=by rw [mL,h5];rfl
  have dg:=gj.k (k:=(abx (S nm):Key)) (sm _ _ yCR)
  rw [Q2] at dg
  exact⟨_,rfl,_,rfl,dv,tx v,rfl,dg,hQ _ (ah.refl _)⟩
 refine⟨D8,_,rfl,aC.of f3,fun tq iq nq slq i6=>?_⟩
 have xT:=ai i6 (.jY ⟨.type "tuple",none,.seq iq nq,slq⟩ (.tup (vs.map tx)))
 have yT:=aW xT
 have xRT:=ah.trans sS xT
 generalize upd HS tq _=HT' at xT yT xRT ⊢
 refine⟨(by show 2<=aaj;decide),fun ts Fe=>?_⟩
 have xU:=ai Fe (.tup [V.int (L:Int),V.ref tq])
 have yU:=aW xU
 have yTU:=xU _ _ yT
 have xRU:=ah.trans xRT xU
 generalize upd HT' ts _=HU at xU yU yTU xRU ⊢
 have d4:mP K HU (.ref ts) (L:Int) vs:=⟨ts,tq,rfl,bH.of yU,.inl (.inr ⟨_,yTU⟩)⟩
 have hc:∀x∈vs,Qx x:=fun x O=>jV (rpN x (Yw x O)).1
 have g5:wX (L:Int) vs:=by
  refine⟨?_,by omega,hc⟩
  rw [Int.natAbs_natCast]
  rcases(by omega:L=0\/L=1) with e|e <;> rw [e] <;> decide
 have x4U:=ah.trans x4R xRU
 have e6:=a4.keep (Kp.same (H0:=H3) x4U)
 have g4:=a7.sm xRU
 have ae4:stepOk (aR rs) (L:Int) vs (dR r (rT L)):=⟨by omega,by rw [acv];exact Sd,hlen⟩
 have zt:(aR rs).length=2:=by
  obtain⟨a',b',rfl,e⟩:=fU QW
  rw [e]
  rfl
 refine aL ?_
 dsimp only
 refine hid9 fun _ Y=>?_
 refine⟨_,rfl,_,rfl,_,rfl,H3,bv,pq,.ref ts,ks,aR rs,dM,cf,b,(L:Int),vs,rfl,e6,g4,d4,g5,by omega,by omega,(fun r' c0=>(G.Pp r' c0).1),(fun Ml=>absurd ae4 (Ml _)),fun r' Et HV sV=>?_⟩
 have X2:r'=dR r (rT L):=by
  have z:=Et.2.1
  rw [acv,Sd] at z
  exact(abA z).symm
 rw [X2]
 have x4V:=ah.trans x4U sV
 have xRV:=ah.trans xRU sV
 refine Y _ _ ?_
 try dsimp only
 have eF:gS ks (b8 (dR r (rT L)) vs) (dR r (rT L)) dM cf b=gS ks (b8 r vs) r dM cf b:=rfl
 rw [eF]
 refine⟨_,rfl,_,"bool",_,true,rfl,.bl _,EZ,_,rfl,bw ?_⟩
 have nlk:∀k∈r.aT,uY (gM (b8 r vs) k.l)/\uY (gM (b8 r vs) k.r):=fun k hk=>by
  have key:∀x∈opens (r.take++r.keep)++WS,uY (gM (b8 r vs) x):=fun x O=>by
   rcases Hy (b8 r vs) x with z|z
   ·rw [z];exact Cj x O
   ·exact vsN _ z
  exact⟨key _ (hD.aT k hk).1,key _ (hD.aT k hk).2⟩
 refine⟨_,rfl,_,rfl,_,rfl,_,rfl,_,rfl,lk,pq,.ref tr,dv,ks,dM,cf,b,r,b8 r vs,rfl,zU.sm (ah.trans x1R xRV),by omega,a7.sm xRV,hX.sm x4V,xRV _ _ yCR,⟨by omega,by omega,by omega,by omega,by omega⟩,(fun g B=>?_),nlk,fun HW sW=>?_⟩
 ·rcases aaq.mp B with z|z
  ·have:=(okT g z).2.1;omega
  ·rcases aaq.mp z with y|y
   ·have:=(okK g y).2.1;omega
   ·have:=(okP g y).2.1;omega
 refine⟨rfl,_,rfl,?_⟩
 have eN:(!decide (V.bl (gS ks (b8 r vs) r dM cf b)=V.bl (gS ks (b8 r vs) r dM cf b)))=false:=by rw [decide_eq_true rfl];rfl
 rw [eN]
 refine bw ?_
 have x4W:=ah.trans x4V sW
 have xRW:=ah.trans xRV sW
 have xUW:=ah.trans sV sW
 have sW':=ah.trans sR xRW
 refine⟨_,rfl,_,rfl,_,rfl,_,rfl,ld,_,6,_,rfl,rfl,aC.of (x4W _ _ zY),qe6,_,rfl,a,cs,6,rfl,sW'.seq hS,by decide,fun v7=>?_⟩
 refine⟨.ref ts,_,v7,(L:Int),vs,rfl,d4.sm xUW,by omega,by omega,by omega,hc,fun sv n' ns' HX sX ae5 ae6 U4=>?_⟩
 refine⟨H3,bv,pq,sv,ks,aR rs,dM,cf,b,n',ns',rfl,a4.keep (Kp.same (H0:=H3) (ah.trans x4W sX)),a7.sm (ah.trans xRW sX),ae5,ae6,by omega,by omega,(fun r' c0=>(G.Pp r' c0).1),fun r' Et=>?_,fun HY sY=>q _⟩
 rcases U4 with z|z|⟨z1,z2⟩
 ·have:=Et.1;omega
 ·have:=(aaf.mp Et.2.1).1
  omega
 ·subst z1
  have z:=Et.2.1
  rw [acv,Sd] at z
  have er2:=(abA z).symm
  have z3:=Et.2.2
  rw [er2] at z3
  exact z2 (z3.trans hlen.symm)
end
end iI
namespace iI
open PySem L2 cE Bk
open PySem.W (nsIn findIn keepIn mg_of isFn mroIn)
set_option maxHeartbeats 4000000
def bS (K:aaa) (x:Str) (st:Stmt) (f:aay) (fd:abZ):Prop:=nsIn K aa3 x=some (some (.ref f))/\dz K x x st f fd
section
variable {P:abn} {w:abU} {K:aaa} {mg:Str->Option aae} {base h:Heap} {x:Str} {k:Nat} {ps:List Str} {sp:Sp} {f:aay} {fd:abZ} {st:Stmt}
def JX (ps:List Str) (x:Str) (st:Stmt):Prop:=∀(kV doc pm:aae) (an:Option aay) (cP ct:aae) (us:List aae),us.length=ps.length->bindArgs (ad3 x x (j9 st) (ij st) (au st) .none kV doc pm an cP ct) ⟨us,[]⟩=pure (ps.zip us)
theorem Vc (X:K.In h) (G:h.Ns aa3 mg) (F:bS K x st f fd) (o:aX P w K mg base dS k f fd ps sp) (b:JX ps x st):dn P w K mg base x k ps sp:=⟨_,_,o,F.2.binds b,F.2.2,mg_of X G F.1⟩
theorem Rf (X:K.In h) (G:h.Ns aa3 mg) (F:bS K x st f fd) (o:aX P w K mg base (Gy P w) k f fd ps sp) (b:JX ps x st):KJ P w K mg base x k ps sp:=⟨_,_,o,F.2.binds b,F.2.2,mg_of X G F.1⟩
theorem b0 {Pr:List aae->Prop} (h:Pr []):∀us:List aae,us.length=0->Pr us:=fun us e=>by cases us;exact h;cases e
theorem bC {n:Nat} {Pr:List aae->Prop} (h:∀q us,us.length=n->Pr (q::us)):∀us:List aae,us.length=n+1->Pr us:=fun us e=>by
 cases us
 ·cases e
 ·exact h _ _ (Nat.succ.inj e)
theorem b1 {Pr:List aae->Prop} (h:∀q,Pr [q]):∀us:List aae,us.length=1->Pr us:=bC fun q=>b0 (h q)
theorem b2 {Pr:List aae->Prop} (h:∀q z,Pr [q,z]):∀us:List aae,us.length=2->Pr us:=bC fun q=>b1 (h q)
theorem b3 {Pr:List aae->Prop} (h:∀q z B,Pr [q,z,B]):∀us:List aae,us.length=3->Pr us:=bC fun q=>b2 (h q)
theorem b4 {Pr:List aae->Prop} (h:∀q z B F,Pr [q,z,B,F]):∀us:List aae,us.length=4->Pr us:=bC fun q=>b3 (h q)
theorem b5 {Pr:List aae->Prop} (h:∀q z B F G,Pr [q,z,B,F,G]):∀us:List aae,us.length=5->Pr us:=bC fun q=>b4 (h q)
end
theorem Rg {K:aaa} {C:aay} (h:mroIn K C (.type "ValueError")=some true):acj K (.ref C) (.type "ValueError")=some true:=by
 unfold acj
 rw [if_neg (by simp)]
 show(if PySem.W.kitMeta "ValueError"=true then PySem.W.subIn K (.ref C) (.type "ValueError") else none)=_
 rw [if_pos (by decide +kernel)]
 exact h
theorem all_mk {l:ahv} {w:abU} {K:aaa} {h:Heap} {mg:Str->Option aae} {fa eG cD df q bK uC dE iW iY iZ gu fu z B f_0 f_1 f_2 f_3 f_4 f_5 f_6 f_7 f_8 f_9 ae7 ae8 ae9 afa afb afc afd afe aff afg afh afi afj afk afl afm afn afo afp afq afr afs aft afu afv afw afx afy afz afA afB afC afD afE afF afG afH afI afJ afK afL afM afN afO afP afQ afR afS Vd gH jG L jH O gw:aay} (X:K.In h) (G:h.Ns aa3 mg) (J:mg "law"=some (.ref fa))
  {xX Lm vj IC O1 ID xY Ln xZ Lo Dm Aa FU O2 qX FV FW Dn Dp FX FY IE Dq FZ Ab Ac Dr Ds Ad Du F0 Lp yc Dv Ae Lq Dw Ve F3 Af F4 Dx F6 F8 Dy Dz DA DB Ga Gb Gd Lr Ls DC Ag Ge Gf yd Ah Ai ye Aj yf tS:abZ} {Vf O3:Option aay} {Vg:Array (Option aae)} {Vh O4 O5 O6 IF O7:aae}
  {DD DE Bz BA qY nQ:Tok}
  {lW lX yg:aay}
  {yh yi yj yl ym yn yo IG IH II IJ IK:Tok}
  {oO oP BB:Nat}
  {Ak Al Lu:Array (Option aae)}
  (Rh:nsIn K aa3 "Same"=some (some (.ref eG)))
  (Lv:nsIn K aa3 "Unlike"=some (some (.ref cD)))
  (Ri:nsIn K aa3 "Rule"=some (some (.ref df)))
  (Rj:nsIn K aa3 "Book"=some (some (.ref q)))
  (Lw:nsIn K aa3 "NoStep"=some (some (.ref bK)))
  (DF:nsIn K aa3 "PoolError"=some (some (.ref uC)))
  (Am:nsIn K aa3 "NotFitting"=some (some (.ref dE)))
  (Lx:nsIn K aa3 "NoFact"=some (some (.ref iW)))
  (Ly:nsIn K aa3 "NoName"=some (some (.ref iY)))
  (Lz:nsIn K aa3 "NoKind"=some (some (.ref iZ)))
  (IL:nsIn K aa3 "BadArgs"=some (some (.ref gu)))
  (Gg:nsIn K aa3 "TooGreat"=some (some (.ref fu)))
  (LC:nsIn K aa3 "NoFall"=some (some (.ref z)))
  (LD:nsIn K aa3 "NoPool"=some (some (.ref B)))
  (YK:nsIn K aa3 "law"=some (some (.ref Vd)))
  (DG:findIn K (.ref eG) "__init__"=some (some (.ref gH)))
  (An:findIn K (.ref eG) "holds"=some (some (.ref O)))
  (yp:findIn K (.ref cD) "__init__"=some (some (.ref gH)))
  (vm:findIn K (.ref cD) "holds"=some (some (.ref gw)))
  (DH:findIn K (.ref df) "__init__"=some (some (.ref jG)))
  (Ao:findIn K (.ref df) "calls"=some (some (.ref L)))
  (DI:findIn K (.ref q) "__init__"=some (some (.ref jH)))
  (oQ:isFn K (.ref gH)=true)
  (Ap:isFn K (.ref jG)=true)
  (yq:isFn K (.ref L)=true)
  (Aq:isFn K (.ref jH)=true)
  (yr:isFn K (.ref O)=true)
  (tT:isFn K (.ref gw)=true)
  (nS:bS K "is_name_sign" iJ f_0 xX)
  (BC:bS K "is_name" tD f_1 Lm)
  (lZ:bS K "is_small_word" g7 f_2 vj)
  (yt:bS K "name_end" pS f_3 IC)
  (Gh:bS K "pieces" xc f_4 O1)
  (yu:bS K "piece_at" pT f_5 ID)
  (nT:bS K "arguments_at" iM f_6 xY)
  (BD:bS K "fact_at" tE f_7 Ln)
  (nU:bS K "row_of_facts" iK f_8 xZ)
  (BE:bS K "is_told" tH f_9 Lo)
  (qZ:bS K "told_lines" kY ae7 Dm)
  (oR:bS K "line_pieces" ju ae8 Aa)
  (uD:bS K "read_kind" mS ae9 FU)
  (Gi:bS K "parted" xf afa O2)
  (jk:bS K "check_two_names" fV afb qX)
  (uE:bS K "read_look" mV afc FV)
  (uF:bS K "read_pair" mW afd FW)
  (rf:bS K "read_looks" kZ afe Dn)
  (rh:bS K "read_pairs" lh aff Dp)
  (uG:bS K "read_part" mU afg FX)
  (uH:bS K "read_rule" mT afh FY)
  (yw:bS K "is_great" pQ afi IE)
  (ri:bS K "open_names" lu afj Dq)
  (uI:bS K "hear_line" m4 afk FZ)
  (oS:bS K "check_facts" jr afl Ab)
  (oT:bS K "check_taken" js afm Ac)
  (rj:bS K "check_call" lA afn Dr)
  (rm:bS K "said_names" lB afo Ds)
  (oU:bS K "check_names" jv afp Ad)
  (rn:bS K "whole_book" ly afq Du)
  (uJ:bS K "read_book" m3 afr F0)
  (BG:bS K "written" tF afs Lp)
  (nV:bS K "pair_written" iN aft yc)
  (ro:bS K "looks_hold" kU afu Dv)
  (oV:bS K "heads_there" jt afv Ae)
  (BH:bS K "changes" tG afw Lq)
  (rA:bS K "check_step" kO afx Dw)
  (O8:bS K "fits" Hz afy Ve)
  (uK:bS K "_law_cell" m5 afz F3)
  (oW:bS K "_law_digits" jw afA Af)
  (uL:bS K "_law_name" m6 afB F4)
  (rB:bS K "_law_drawn" lC afC Dx)
  (uM:bS K "_law_fact" m7 afD F6)
  (uN:bS K "_law_part" m9 afE F8)
  (rE:bS K "_law_names" lF afF Dy)
  (rG:bS K "_law_kinds" lD afG Dz)
  (rH:bS K "_law_heads" lE afH DA)
  (rJ:bS K "_law_looks" lG afI DB)
  (uO:bS K "_law_rule" m8 afJ Ga)
  (uP:bS K "_law_text" nh afK Gb)
  (uQ:bS K "_law_book" ni afL Gd)
  (BI:bS K "_law_at" tI afM Lr)
  (BJ:bS K "_law_as" tJ afN Ls)
  (rK:bS K "_law_holds" lH afO DC)
  (oX:bS K "_law_spoilt" jx afP Ag)
  (uR:bS K "_law_pool" nu afQ Ge)
  (uS:bS K "_law_fits" nj afR Gf)
  (nW:bS K "_law_refused" iP afS yd)
  (YL:K.lookup Vd=some ⟨Vh,Vf,.func (ad3 "law" "law" (j9 qP) (ij qP) (au qP) .none O4 O5 O6 O3 IF O7),Vg⟩)
  (YM:agU K IF "law"=true)
  (YN:keepIn K (.ref Vd)=true)
  (oY:dz K "__init__" "Look.__init__" mR gH Ah)
  (oZ:dz K "__init__" "Rule.__init__" mX jG Ai)
  (ja:dz K "calls" "Rule.calls" lj L ye)
  (Y:dz K "__init__" "Book.__init__" mY jH Aj)
  (jb:dz K "holds" "Same.holds" kW O yf)
  (gx:dz K "holds" "Unlike.holds" iO gw tS)
  (Rk:adu K eG agm=true)
  (Rm:adB K eG=true)
  (Rn:adQ K eG=true)
  (Ro:findIn K (.ref eG) "__setattr__"=some (some (.builtin "object.__setattr__")))
  (Rp:ael K eG=true)
  (Rq:keepIn K (.ref eG)=true)
  (Gj:findIn K (.ref eG) "left"=some none)
  (DJ:findIn K (.ref eG) "right"=some none)
  (aaC:findIn K (.ref eG) "__class__"=some (some (.builtin "object.__class__")))
  (aaD:mroIn K eG (.type "object")=some true)
  (LF:adu K cD agm=true)
  (LG:adB K cD=true)
  (LH:adQ K cD=true)
  (LJ:findIn K (.ref cD) "__setattr__"=some (some (.builtin "object.__setattr__")))
  (LK:ael K cD=true)
  (LM:keepIn K (.ref cD)=true)
  (Ar:findIn K (.ref cD) "left"=some none)
  (yx:findIn K (.ref cD) "right"=some none)
  (VP:findIn K (.ref cD) "__class__"=some (some (.builtin "object.__class__")))
  (VQ:mroIn K cD (.type "object")=some true)
  (Rr:adu K df agm=true)
  (Rt:adB K df=true)
  (Ru:adQ K df=true)
  (Rv:findIn K (.ref df) "__setattr__"=some (some (.builtin "object.__setattr__")))
  (Rw:ael K df=true)
  (Rx:keepIn K (.ref df)=true)
  (DK:findIn K (.ref df) "title"=some none)
  (DL:findIn K (.ref df) "taken"=some none)
  (Gk:findIn K (.ref df) "kept"=some none)
  (DM:findIn K (.ref df) "looks"=some none)
  (DN:findIn K (.ref df) "given"=some none)
  (Gm:findIn K (.ref df) "told"=some none)
  (DO:findIn K (.ref df) "names"=some none)
  (aaE:findIn K (.ref df) "__class__"=some (some (.builtin "object.__class__")))
  (aaF:mroIn K df (.type "object")=some true)
  (Ry:adu K q agm=true)
  (Rz:adB K q=true)
  (RA:adQ K q=true)
  (RB:findIn K (.ref q) "__setattr__"=some (some (.builtin "object.__setattr__")))
  (RC:ael K q=true)
  (RD:keepIn K (.ref q)=true)
  (DP:findIn K (.ref q) "kinds"=some none)
  (DQ:findIn K (.ref q) "rules"=some none)
  (aaG:findIn K (.ref q) "__class__"=some (some (.builtin "object.__class__")))
  (aaH:mroIn K q (.type "object")=some true)
  (hn:agi K (.builtin "object.__class__") "__get__"=some (some (.builtin "getset_descriptor.__get__")))
  (We:PySem.W.takesIn K (.builtin "object.__class__")=some true)
  (IM:ac7 K gu=true)
  (IP:adj K (.ref gu)=some (.type "type"))
  (IQ:mroIn K gu (.ref gu)=some true)
  (LN:ac7 K iW=true)
  (LO:adj K (.ref iW)=some (.type "type"))
  (LP:mroIn K iW (.ref iW)=some true)
  (LQ:ac7 K z=true)
  (LR:adj K (.ref z)=some (.type "type"))
  (LS:mroIn K z (.ref z)=some true)
  (LU:ac7 K iZ=true)
  (LV:adj K (.ref iZ)=some (.type "type"))
  (LW:mroIn K iZ (.ref iZ)=some true)
  (LX:ac7 K iY=true)
  (LY:adj K (.ref iY)=some (.type "type"))
  (LZ:mroIn K iY (.ref iY)=some true)
  (L3:ac7 K B=true)
  (L4:adj K (.ref B)=some (.type "type"))
  (L5:mroIn K B (.ref B)=some true)
  (As:ac7 K dE=true)
  (Au:adj K (.ref dE)=some (.type "type"))
  (Av:mroIn K dE (.ref dE)=some true)
  (Gn:ac7 K fu=true)
  (Gp:adj K (.ref fu)=some (.type "type"))
  (Gq:mroIn K fu (.ref fu)=some true)
  (nY:mroIn K bK (.ref dE)=some false)
  (tU:mroIn K bK (.ref iW)=some false)
  (tV:mroIn K bK (.ref iY)=some false)
  (tW:mroIn K bK (.ref iZ)=some false)
  (rL:mroIn K bK (.ref gu)=some false)
  (pZ:mroIn K bK (.ref fu)=some false)
  (tX:mroIn K bK (.ref z)=some false)
  (tY:mroIn K bK (.ref B)=some false)
  (RE:nsIn K aa3 "GREAT"=some (some (.str kj DD)))
  (RG:nsIn K aa3 "SMALL"=some (some (.str fM DE)))
  (L6:nsIn K aa3 "FIGURES"=some (some (.str Nh Bz)))
  (L7:nsIn K aa3 "LONGEST"=some (some (.int 12 BA)))
  (DR:nsIn K aa3 "LINE_MARKS"=some (some (.str gf qY)))
  (Gr:nsIn K aa3 "RULE_WORD"=some (some (.str (S fN) nQ)))
  (DS:nsIn K aa3 "ValueError"=some none)
  (YO:nsIn K aa3 "all"=some none)
  (YQ:nsIn K aa3 "any"=some none)
  (Vi:nsIn K aa3 "bool"=some none)
  (Vj:nsIn K aa3 "dict"=some none)
  (Gs:nsIn K aa3 "enumerate"=some none)
  (YR:nsIn K aa3 "int"=some none)
  (DT:nsIn K aa3 "isinstance"=some none)
  (YS:nsIn K aa3 "len"=some none)
  (Vk:nsIn K aa3 "list"=some none)
  (RH:nsIn K aa3 "range"=some none)
  (O9:nsIn K aa3 "sorted"=some none)
  (YT:nsIn K aa3 "str"=some none)
  (RI:nsIn K aa3 "tuple"=some none)
  (YU:nsIn K aa3 "zip"=some none)
  (L8:ac7 K bK=true)
  (qV:agt K bK bmV TF=true)
  (V:ahM K (.ref bK) (.ref uC)=some true)
  (afT:findIn K (.ref bK) "__getattribute__"=some (some (.builtin "BaseException.__getattribute__")))
  (afU:findIn K (.ref bK) "__getattr__"=some none)
  (afV:findIn K (.ref bK) "__class__"=some (some (.builtin "object.__class__")))
  (afW:agi K (.builtin "object.__class__") "__get__"=some (some (.builtin "getset_descriptor.__get__")))
  (afX:agi K (.builtin "object.__class__") "__set__"=some (some (.builtin "getset_descriptor.__set__")))
  (afY:mroIn K bK (.type "object")=some true)
  (afZ:mroIn K bK (.type "BaseException")=some true)
  (af0:mroIn K bK (.type "ValueError")=some true)
  (DU:aiq K aa3 "KIND_WORDS"=some (some (.ref lW)))
  (DV:K.lookup lW=some ⟨.type "tuple",none,.seq #[ac1 "passing" yh,ac1 "lasting" yi] oO,Ak⟩)
  (DW:aiq K aa3 "PART_WORDS"=some (some (.ref lX)))
  (rM:K.lookup lX=some ⟨.type "tuple",none,.seq #[ac1 "take" yj,ac1 "keep" yl,ac1 "look" ym,ac1 "put" yn,ac1 "tell" yo] oP,Al⟩)
  (Pa:aiq K aa3 "COUNTS"=some (some (.ref yg)))
  (Pb:K.lookup yg=some ⟨.type "tuple",none,.seq #[ac1 "0" IG,ac1 "1" IH,ac1 "2" II,ac1 "3" IJ,ac1 "4" IK] BB,Lu⟩)
  : ∃fd:abZ,(∀(s:aah) (v:aae),BindsTo s fd ⟨[v],[]⟩ [("_law_script",v)])/\∀base:Heap,K.In base->base.Ns aa3 mg->aX l.prog w K mg base (Gy l.prog w) 10 fa fd ["_law_script"] (JA K):=by
 have e:=J.symm.trans (mg_of X G YK)
 cases e
 have YV:=GV (st:=qP) YL YM YN
 have Z:=oY.binds (ps:=["self","left","right"]) fun _ _ _ _ _ _=>b3 fun _ _ _=>rfl
 have Aw:=oZ.binds (ps:=["self","title","parts"]) fun _ _ _ _ _ _=>b3 fun _ _ _=>rfl
 have yy:=ja.binds (ps:=["self"]) fun _ _ _ _ _ _=>b1 fun _=>rfl
 have Ax:=Y.binds (ps:=["self","kinds","rules"]) fun _ _ _ _ _ _=>b3 fun _ _ _=>rfl
 have yz:=jb.binds (ps:=["self","one","other"]) fun _ _ _ _ _ _=>b3 fun _ _ _=>rfl
 have tZ:=gx.binds (ps:=["self","one","other"]) fun _ _ _ _ _ _=>b3 fun _ _ _=>rfl
 have mh:=mw As Au Av nY
 have rN:=mw LN LO LP tU
 have rO:=mw LX LY LZ tV
 have rP:=mw LU LV LW tW
 have qb:=mw IM IP IQ rL
 have oC:=mw Gn Gp Gq pZ
 have rQ:=mw LQ LR LS tX
 have rR:=mw L3 L4 L5 tY
 have RJ:=mg_of X G Rh
 have L9:=mg_of X G Lv
 have RK:=mg_of X G Ri
 have RL:=mg_of X G Rj
 have BK:=mg_of X G Lw
 have DX:=mg_of X G DF
 have Ay:=mg_of X G Am
 have Ma:=mg_of X G Lx
 have Mb:=mg_of X G Ly
 have Mc:=mg_of X G Lz
 have IS:=mg_of X G IL
 have Gu:=mg_of X G Gg
 have Md:=mg_of X G LC
 have Me:=mg_of X G LD
 have DY:=abS X G DS
 have SO:=abS X G YO
 have YW:=abS X G YQ
 have Vl:=abS X G Vi
 have IT:=abS X G Vj
 have Gv:=abS X G Gs
 have YX:=abS X G YR
 have rS:=abS X G DT
 have fG:=abS X G YS
 have Pc:=abS X G Vk
 have JY:=abS X G RH
 have Pd:=abS X G O9
 have YY:=abS X G YT
 have oy:=abS X G RI
 have SQ:=abS X G YU
 have JZ:=mg_of X G RE
 have J0:=mg_of X G RG
 have Mf:=mg_of X G L6
 have Mg:=mg_of X G L7
 have DZ:=mg_of X G DR
 have uT:=mg_of X G Gr
 refine⟨ad3 "law" "law" (j9 qP) (ij qP) (au qP) .none O4 O5 O6 O3 IF O7,fun s v=>.of_eq rfl,fun base _ _=>?_⟩
 have cl {x:Str} {k:Nat} {ps:List Str} {sp:Sp} {f:aay} {fd:abZ} {st:Stmt} (F:bS K x st f fd) (o:aX l.prog w K mg base dS k f fd ps sp) (b:JX ps x st):=Vc X G F o b
 have cle {x:Str} {k:Nat} {ps:List Str} {sp:Sp} {f:aay} {fd:abZ} {st:Stmt} (F:bS K x st f fd) (o:aX l.prog w K mg base (Gy l.prog w) k f fd ps sp) (b:JX ps x st):=Rf X G F o b
 let cc:Cl:=⟨eG,cD,df,q⟩
 have exk:PySem.W.ExcKit K bK:=⟨afT,afU,afV,afW,afX,afY,afZ,L8⟩
 let Cx:Nat->aay:=fun n=>if n=0 then dE else if n=1 then iW else if n=2 then iY else if n=3 then iZ else if n=4 then gu else if n=5 then fu else if n=6 then z else B
 have kxx:∀n,n<8->acj K (.ref bK) (.ref (Cx n))=some false:=fun n h=>by
  rcases(show n=0\/n=1\/n=2\/n=3\/n=4\/n=5\/n=6\/n=7 by omega) with rfl|rfl|rfl|rfl|rfl|rfl|rfl|rfl
  ·exact mh
  ·exact rN
  ·exact rO
  ·exact rP
  ·exact qb
  ·exact oC
  ·exact rQ
  ·exact rR
 have D0:yZ K cc.same:=⟨⟨Rk,Rm,Rn,Ro⟩,Gj,DJ⟩
 have rV:yZ K cc.unlike:=⟨⟨LF,LG,LH,LJ⟩,Ar,yx⟩
 have gy:sr K cc.rule:=⟨⟨Rr,Rt,Ru,Rv⟩,DK,DL,Gk,DM,DN,Gm,DO⟩
 have IU:Qn K cc.book:=⟨⟨Ry,Rz,RA,RB⟩,DP,DQ⟩
 have D9:=aif X G DU
 have Az:∀H:Hp,bH K H lW [tx [112,97,115,115,105,110,103],tx [108,97,115,116,105,110,103]]:=fun H=>.inr ⟨_,_,oO,DV,rfl,rfl,(by show 2<=aaj;decide),rfl,.cons (g6 (by decide +kernel)) (.cons (g6 (by decide +kernel)) (.nil))⟩
 have Ea:=aif X G DW
 have AA:∀H:Hp,bH K H lX [tx [116,97,107,101],tx [107,101,101,112],tx [108,111,111,107],tx [112,117,116],tx [116,101,108,108]]:=fun H=>.inr ⟨_,_,oP,rM,rfl,rfl,(by show 5<=aaj;decide),rfl,.cons (g6 (by decide +kernel)) (.cons (g6 (by decide +kernel)) (.cons (g6 (by decide +kernel)) (.cons (g6 (by decide +kernel)) (.cons (g6 (by decide +kernel)) (.nil)))))⟩
 have Pe:=aif X G Pa
 have Mh:∀H:Hp,bH K H yg [tx [48],tx [49],tx [50],tx [51],tx [52]]:=fun H=>.inr ⟨_,_,BB,Pb,rfl,rfl,(by show 5<=aaj;decide),rfl,.cons (g6 (by decide +kernel)) (.cons (g6 (by decide +kernel)) (.cons (g6 (by decide +kernel)) (.cons (g6 (by decide +kernel)) (.cons (g6 (by decide +kernel)) (.nil)))))⟩
 have dm:=cl nS (u6 nS.2 J0 ⟨DE,rfl⟩ JZ ⟨DD,rfl⟩ Mf ⟨Bz,rfl⟩) fun _ _ _ _ _ _=>b1 fun _=>rfl
 have dN:=cl BC (Ia BC.2 dm fG SO Mg ⟨BA,rfl⟩) fun _ _ _ _ _ _=>b1 fun _=>rfl
 have bN:=cl lZ (tL lZ.2 dN J0 ⟨DE,rfl⟩) fun _ _ _ _ _ _=>b1 fun _=>rfl
 have pU:=cl yt (FC yt.2 dm fG) fun _ _ _ _ _ _=>b2 fun _ _=>rfl
 have xj:=cl Gh (K6 Gh.2 pU fG) fun _ _ _ _ _ _=>b2 fun _ _=>rfl
 have bQ:=cl yu (FF yu.2 fG) fun _ _ _ _ _ _=>b2 fun _ _=>rfl
 have iQ:=cl nT (u7 nT.2 bQ dN oy) fun _ _ _ _ _ _=>b2 fun _ _=>rfl
 have tM:=cl BD (Ib BD.2 bQ bN iQ) fun _ _ _ _ _ _=>b2 fun _ _=>rfl
 have iR:=cl nU (u9 nU.2 tM fG) fun _ _ _ _ _ _=>b1 fun _=>rfl
 have tN:=cl BE (Ic BE.2) fun _ _ _ _ _ _=>b1 fun _=>rfl
 have lN:=cl qZ (zB qZ.2 tN) fun _ _ _ _ _ _=>b1 fun _=>rfl
 have jy:=cl oR (xi oR.2 xj DZ ⟨qY,rfl⟩) fun _ _ _ _ _ _=>b1 fun _=>rfl
 have nF:=cl uD (CD uD.2 bN fG YX D9 Az Pe Mh) fun _ _ _ _ _ _=>b1 fun _=>rfl
 have fW:=cl Gi (K8 Gi.2) fun _ _ _ _ _ _=>b2 fun _ _=>rfl
 have cA:=cl jk (pX jk.2 dN fG) fun _ _ _ _ _ _=>b1 fun _=>rfl
 have ph:aX l.prog w K mg base dS 1 _ _ ["self","left","right"] (kr K):=CJ oY
 have Ie:P8 l.prog w K mg base "Same" eG 1 ["self","left","right"] (kr K):=⟨_,_,⟨Rp,DG,oQ,Rq⟩,ph,Z,RJ⟩
 have xl:P8 l.prog w K mg base "Unlike" cD 1 ["self","left","right"] (kr K):=⟨_,_,⟨LK,yp,oQ,LM⟩,ph,Z,L9⟩
 have ny:=cl uE (CL (c:=cc) uE.2 cA D0 rV Ie xl) fun _ _ _ _ _ _=>b1 fun _=>rfl
 have nz:=cl uF (CN uF.2 cA) fun _ _ _ _ _ _=>b1 fun _=>rfl
 have lI:=cl rf (zD (c:=cc) rf.2 fW ny) fun _ _ _ _ _ _=>b1 fun _=>rfl
 have lJ:=cl rh (zF rh.2 fW nz) fun _ _ _ _ _ _=>b1 fun _=>rfl
 have nA:=cl uG (CP (c:=cc) uG.2 lI lJ iR) fun _ _ _ _ _ _=>b2 fun _ _=>rfl
 have nE:=cl uH (CQ (c:=cc) uH.2 bQ bN fW nA uT ⟨nQ,rfl⟩ Ea AA ⟨_,rM,rfl,rfl⟩) fun _ _ _ _ _ _=>b1 fun _=>rfl
 have da:=cl yw (FI yw.2 JZ ⟨DD,rfl⟩) fun _ _ _ _ _ _=>b1 fun _=>rfl
 have lK:=cl ri (zG ri.2 da Pc) fun _ _ _ _ _ _=>b1 fun _=>rfl
 have AB:aX l.prog w K mg base dS 3 _ _ ["self","title","parts"] (vB K cc):=CU (c:=cc) oZ gy lK
 have Im:P8 l.prog w K mg base "Rule" df 3 ["self","title","parts"] (vB K cc):=⟨_,_,⟨Rw,DH,Ap,Rx⟩,AB,Aw,RK⟩
 have iA:Met l.prog w K mg base df "calls" 1 ["self"] (vD K cc):=⟨_,_,gy.cl,⟨Ao,yq,ja.2⟩,zI (c:=cc) ja gy fG,yy⟩
 have AD:aX l.prog w K mg base dS 1 _ _ ["self","kinds","rules"] (vC K cc):=CW (c:=cc) Y IU
 have Io:P8 l.prog w K mg base "Book" q 1 ["self","kinds","rules"] (vC K cc):=⟨_,_,⟨RC,DI,Aq,RD⟩,AD,Ax,RL⟩
 have nI:=cl uI (CY (c:=cc) uI.2 gy jy nE nF Im uT ⟨nQ,rfl⟩) fun _ _ _ _ _ _=>b3 fun _ _ _=>rfl
 have jA:=cl oS (xr oS.2 IT fG) fun _ _ _ _ _ _=>b2 fun _ _=>rfl
 have jB:=cl oT (xu oT.2) fun _ _ _ _ _ _=>b2 fun _ _=>rfl
 have lM:=cl rj (zK (c:=cc) rj.2 gy iA) fun _ _ _ _ _ _=>b2 fun _ _=>rfl
 have lL:=cl rm (zM (c:=cc) rm.2 gy D0 rV) fun _ _ _ _ _ _=>b1 fun _=>rfl
 have jC:=cl oU (xx (c:=cc) oU.2 gy lL da) fun _ _ _ _ _ _=>b1 fun _=>rfl
 have lO:=cl rn (zN (c:=cc) rn.2 gy jA jB lM jC Io) fun _ _ _ _ _ _=>b2 fun _ _=>rfl
 have nM:=cl uJ (CZ (c:=cc) uJ.2 lN nI lO) fun _ _ _ _ _ _=>b1 fun _=>rfl
 have iB:=cl BG (Iq BG.2 oy) fun _ _ _ _ _ _=>b2 fun _ _=>rfl
 have iU:=cl nV (vd nV.2) fun _ _ _ _ _ _=>b2 fun _ _=>rfl
 have yE:Met l.prog w K mg base eG "holds" 2 ["self","one","other"] (jX true):=⟨_,_,D0.cl,⟨An,yr,jb.2⟩,zP jb,yz⟩
 have t5:Met l.prog w K mg base cD "holds" 2 ["self","one","other"] (jX false):=⟨_,_,rV.cl,⟨vm,tT,gx.2⟩,vf gx da,tZ⟩
 have c_h:∀b,Met l.prog w K mg base (cc.look b) "holds" 2 ["self","one","other"] (jX b):=fun b=>match b with|true=>yE|false=>t5
 have lQ:=cl ro (zR (c:=cc) ro.2 gy D0 rV c_h SO) fun _ _ _ _ _ _=>b2 fun _ _=>rfl
 have jD:=cl oV (xy (c:=cc) oV.2 gy iB) fun _ _ _ _ _ _=>b4 fun _ _ _ _=>rfl
 have tP:=cl BH (Ir (c:=cc) BH.2 gy iB iU YW) fun _ _ _ _ _ _=>b3 fun _ _ _=>rfl
 have lP:=cle rA (zT (c:=cc) rA.2 gy IU qV BK fG) fun _ _ _ _ _ _=>b2 fun _ _=>rfl
 have tR:=cle O8 (Q5 (c:=cc) O8.2 gy IU lP lQ jD tP iA IT SQ) fun _ _ _ _ _ _=>b3 fun _ _ _=>rfl
 have cO:=cl uK (C6 uK.2 fG) fun _ _ _ _ _ _=>b2 fun _ _=>rfl
 have aS:=cl oW (xR oW.2) fun _ _ _ _ _ _=>b2 fun _ _=>rfl
 have cw:=cl uL (C7 uL.2) fun _ _ _ _ _ _=>b2 fun _ _=>rfl
 have bt:=cl rB (zV rB.2 fG JY oy) fun _ _ _ _ _ _=>b3 fun _ _ _=>rfl
 have gU:=cl uM (Dc uM.2 fG Pc) fun _ _ _ _ _ _=>b1 fun _=>rfl
 have dZ:=cl uN (De uN.2 fG) fun _ _ _ _ _ _=>b2 fun _ _=>rfl
 have eD:=cl rE (zW rE.2) fun _ _ _ _ _ _=>b1 fun _=>rfl
 have lU:=cl rG (zX rG.2 aS cw) fun _ _ _ _ _ _=>b1 fun _=>rfl
 have lS:=cl rH (zZ rH.2 aS bt fG) fun _ _ _ _ _ _=>b3 fun _ _ _=>rfl
 have lT:=cl rJ (z7 rJ.2 aS fG) fun _ _ _ _ _ _=>b2 fun _ _=>rfl
 have nJ:=cl uO (Df uO.2 lS eD aS bt lT fG) fun _ _ _ _ _ _=>b5 fun _ _ _ _ _=>rfl
 have nN:=cl uP (Dg uP.2 gU dZ YY Gv) fun _ _ _ _ _ _=>b2 fun _ _=>rfl
 have nK:=cl uQ (Dh uQ.2 cO lU cw nJ JY) fun _ _ _ _ _ _=>b1 fun _=>rfl
 have fF:=cl BI (Iy BI.2) fun _ _ _ _ _ _=>b2 fun _ _=>rfl
 have eE:=cl BJ (IA BJ.2 oy) fun _ _ _ _ _ _=>b2 fun _ _=>rfl
 have lV:=cl rK (z8 rK.2 fF) fun _ _ _ _ _ _=>b2 fun _ _=>rfl
 have jF:=cl oX (xV oX.2 fG) fun _ _ _ _ _ _=>b3 fun _ _ _=>rfl
 have nO:=cl uR (Di uR.2 Pd oy) fun _ _ _ _ _ _=>b3 fun _ _ _=>rfl
 have nP:=cl uS (Dj uS.2 eE fF lV fG) fun _ _ _ _ _ _=>b4 fun _ _ _ _=>rfl
 have iV:=cl nW (vi (c:=cc) (Cx:=Cx) nW.2 tR DX rS BK DY Ay Ma Mb Mc IS Gu Md Me V exk EZ (Rg af0) kxx) fun _ _ _ _ _ _=>b3 fun _ _ _=>rfl
 exact U6 (c:=cc) (C1:=bK) YV nK aS cO nM nN eD eE bt nO tR nP iV jF IT SQ fG oy rS Vl
theorem walk {l:ahv} {q:abn} {loose:List Str} {XP:(Str->Option aae)->Heap->Prop} {YP:abU->Heap->Prop} {d:DefRec} {K:Params->aaa} (hn:l.most=some 63) (Wl:d.params.defaults=[])
  (G:∀(w:abU) (h:Heap),YP w h->(K w.params).In h)
  (F:∀(w:abU) (mg:Str->Option aae) (fa:aay) (h:Heap),(K w.params).In h->h.Ns aa3 mg->mg d.name=some (.ref fa) ->
   ∃fd:abZ,(∀(s:aah) (u:aae),BindsTo s fd ⟨[u],[]⟩ [("_law_script",u)])/\∀base:Heap,(K w.params).In base->base.Ns aa3 mg->aX l.prog w (K w.params) mg base (Gy l.prog w) 10 fa fd ["_law_script"] (JA (K w.params))) :
  PySem.W.WalkO q loose XP YP l.row.toRowW d [] (fun f vs=>PySem.call f vs) :=
 L2.P4 (n:=63) (k:=10) (x:="_law_script") (CX:=fun w=>Gy l.prog w) (sp:=fun w=>JA (K w.params)) hn (by decide) Wl ⟨rfl,by decide,by decide,rfl⟩ G F (fun _ _ a ns hl _ B=>⟨a,ns,rfl,B,hl,fun _=>rfl⟩) fun _ _ _ _ _ z=>by obtain⟨_,_,_,_,_,z⟩:=z;exact z
end iI
end
open PySem PySem.W PyProof.Rows
namespace PySem.W.Fast
def tw17816539861205743142:=True
def tw4912669315992179135:=True
def tw4837385419146972215:=True
def tw13260741716679017508:=True
def tw10869074581773610119:=True
def tw18147819378030573874:=True
def tw892358072072908370:=True
def tw13970034214298778515:=True
def tw14381519423558353388:=True
def tw4723497287808096423:=True
def tw7638509257788446312:=True
def tw3727978784818182819:=True
def tw14680139149922517202:=True
def tw5507906126558362762:=True
def tw1487480613618655112:=True
def tw7229579565759995745:=True
def tw13912892163413238066:=True
def tw4012970327410239583:=True
def tw4078651269314237508:=True
def tw565579099107353898:=True
def tw17415442195844755906:=True
def tw11965044633945555158:=True
def tw15874922189293084343:=True
def tw1284317700204428491:=True
def tw11821807208152682555:=True
def tw16335266487108937735:=True
def tw4030577371748439513:=True
def tw6993870891853587524:=True
def tw16129918598565780347:=True
def tw6262143259195039769:=True
def tw3839572928529078654:=True
def tw10313944026086589222:=True
def tw819090468262905655:=True
def tw2932473938976124892:=True
def tw3670436760863045494:=True
def tw7925403067105220773:=True
def tw17092969264768079656:=True
def tw16638077807690290615:=True
def tw13834751794861913447:=True
def tw4648733271248465592:=True
def tw15732583949742879535:=True
def tw4402351510762624847:=True
def tw14630234294082183205:=True
def tw15411264583373058848:=True
def tw8356650284532205857:=True
def tw1029748222365405055:=True
def tw10721348710109941463:=True
def tw10118696372575303212:=True
def tw134775947681460992:=True
def tw16147827661580143928:=True
def tw3444791693269022878:=True
def tw17658010557517884649:=True
def tw10669788915300599980:=True
def tw1150250112301179444:=True
def tw2235148722637595378:=True
def tw15415274458677170416:=True
def tw2156390761707893385:=True
def tw8044210977465739206:=True
def tw16463776538025126597:=True
def tw7547241038760072722:=True
def tw9444054724308951151:=True
def tw9399407990765591914:=True
def tw2373006517615566058:=True
def tw12637509890839343831:=True
def tw16594464640354508460:=True
def tw9455126675024504240:=True
def tw9063135305879138559:=True
def tw14169015115618099939:=True
def tw12443543192802266705:=True
def tw15801933105153682775:=True
def tw15783434016142164901:=True
def tw12411259947083646045:=True
def tw12396708699190558165:=True
def tw3754172374041803578:=True
def tw5620200964628771321:=True
def tw8233278987662241147:=True
def tw7773369085772985196:=True
def tw13953311092150218925:=True
def tw12803074554577331367:=True
def tw10796419713739250743:=True
def tw8322719114969866069:=True
def tw9244746672826590807:=True
def tw1862489526805535323:=True
def tw1374559966390016460:=True
def tw11946224199103088149:=True
def tw17605496374091893895:=True
def tw10506644374857728032:=True
def tw128035198565552070:=True
def tw16546882768906195312:=True
def tw14028896081051725656:=True
def tw2299519451957910285:=True
def tw16550404567066206780:=True
def tw15492980578072054649:=True
def tw11987805547847726903:=True
def tw14494823702225299993:=True
def tw836077389780804352:=True
def tw15338985064293944175:=True
def tw3545968040906519784:=True
def tw5313734324702197845:=True
def tw15232823806158545856:=True
def tw2888472669725749532:=True
def tw14551476314224990232:=True
def tw7449940408872127271:=True
def tw8808138249754590935:=True
def tw14304285113163195947:=True
def tw4168489932710807515:=True
def tw10913732592632202613:=True
def tw17390548751864873805:=True
def tw297253276811252866:=True
def tw11528664088871934996:=True
def tw8962600607678815353:=True
def tw11543246282988086190:=True
def tw17431899906777622404:=True
def tw1201063164856854903:=True
def tw3649004013646801450:=True
def tw14648682371770913688:=True
def tw11785143143553606652:=True
def tw15112141585450320162:=True
def tw3810963469342702355:=True
def tw14415451226369764069:=True
def tw336164724313828791:=True
def tw12972971156564519537:=True
def tw13373328578485037506:=True
def tw13966911231329131667:=True
def tw7279178914090863908:=True
def tw8314615955957666977:=True
def tw12987354180138693496:=True
def tw7536791310534222802:=True
def tw5062987798248342620:=True
def tw14556471949537680394:=True
def tw1813485478987183348:=True
def tw553027767900828949:=True
def tw6517504690209773810:=True
def tw7185898645291304720:=True
def tw13526605170877321192:=True
def tw9770420635103858470:=True
def tw5287038164559937669:=True
def tw17360467722837872688:=True
def tw10600409795422447087:=True
def tw16839921423555794849:=True
def tw9579729070837021086:=True
def tw2582113262792208651:=True
def tw11626052067202787269:=True
def tw6655467796227850808:=True
def tw11432418287508936897:=True
def tw5437932073089426823:=True
def tw8340617000723738164:=True
def tw7734717134223795953:=True
def tw18063370568367537320:=True
def tw5427384183424698804:=True
def tw9835568300841794099:=True
def tw16514701395686577784:=True
def tw12867437895876034374:=True
def tw13772387988712526022:=True
def tw10668852012783361643:=True
def tw9029332423420618596:=True
def tw6532663667176880681:=True
def tw8978081947740403428:=True
def tw11023223781823621806:=True
def tw17170594838913546384:=True
def tw14920170786461747098:=True
def tw3114866442378058690:=True
def tw8411753830132570970:=True
def tw2126635902847431527:=True
def tw8495320094100643832:=True
def tw13507942597544384572:=True
def tw7612194657945932439:=True
def tw12651390725359796537:=True
def tw7113147505735057525:=True
def tw16552157395561652083:=True
def tw10442957842992751572:=True
def tw12838136500943248432:=True
def tw16704823246340988351:=True
def tw2993265156927719339:=True
def tw15171048030529742821:=True
def tw12454022996991471317:=True
def tw7968772755815864647:=True
def tw15492488739730721333:=True
def tw2794788177389416982:=True
def tw7885441789248998475:=True
def tw6610797039398423735:=True
def tw10415964511057127852:=True
def tw2280740850560986298:=True
def tw13432510591744209199:=True
def tw10968953296175089728:=True
def tw15898901886326525059:=True
def tw17348474248955776139:=True
def tw11442891375418033784:=True
def tw7373088135890498866:=True
def tw17159564872702610182:=True
def tw1733377616700744277:=True
def tw8432053139883018774:=True
def tw1524380854957711986:=True
def tw8030855710488331912:=True
def tw1652894412484780844:=True
def tw414835768144203933:=True
def tw7491327368180860422:=True
def tw8273676574367019721:=True
def tw7199435869892782567:=True
def tw14084350359659349388:=True
def tw9099219929228430630:=True
def tw1972502966375887534:=True
def tw13347806850767048866:=True
def tw12169923224075469585:=True
def tw14427417065769513473:=True
def tw9064392894823352812:=True
def tw3150734365647437932:=True
def tw2902494463957472045:=True
def tw16438352488904734325:=True
def tw10280407626614078728:=True
def tw11827412441145181269:=True
def tw10488505378982015006:=True
def tw12249065400727579351:=True
def tw1645991994490251053:=True
def tw11474699320088716018:=True
def tw18398633624194286019:=True
def tw897897810360086498:=True
def tw8999790295225476993:=True
def tw10992340380534756019:=True
def tw2847333921230172624:=True
def tw3525453672619243864:=True
def tw11741064446645395453:=True
def tw9826807624064778992:=True
def tw12540101891939919122:=True
def tw18282291471402417727:=True
def tw10972196931126792580:=True
def tw11354013851839627414:=True
def tw3255029782974730734:=True
def tw3831927721907862268:=True
def tw12214879326680928987:=True
def tw16642405488366962364:=True
def tw2730349827039535754:=True
def tw10061826631853644169:=True
def tw864802890985609484:=True
def tw6060736832795821812:=True
def tw17762071698450054803:=True
def tw4285396272378733220:=True
def tw10465584084440049102:=True
def tw10919327888373399141:=True
def tw16673288578841679434:=True
def tw9835973302315631183:=True
def tw17734443716346537872:=True
def tw12800887531541561538:=True
def tw3035037098195965464:=True
def tw12140111739497429648:=True
def tw16116541533827287816:=True
def tw11321187738170185783:=True
def tw17413778239845079403:=True
def tw12009498854985797044:=True
def tw11802732562206448441:=True
def tw793000070702755964:=True
def tw957007749704281842:=True
def tw11006159556900749876:=True
def tw7817608154266688803:=True
def tw13478976100135842782:=True
def tw442290966780856052:=True
def tw10583853814247004265:=True
def tw17727332278145461365:=True
def tw11954962064541859104:=True
def tw16559511482035497029:=True
def tw3030404606400018426:=True
def tw256043324156586599:=True
def tw7883435357145303438:=True
def tw11575408659562267170:=True
def tw17912301873508320720:=True
def tw15538270320983353554:=True
def tw5746900408217797243:=True
def tw8532132382748180002:=True
def tw7502468778690581424:=True
def tw7124047893633570349:=True
def tw3955055722070404218:=True
def tw4783920140212052525:=True
def tw4484026509409960205:=True
def tw7520768715278266854:=True
def tw963957667368397285:=True
def tw18140404230901131038:=True
def tw16641630414514150984:=True
def tw9463070502534823328:=True
def tw7738001872097361447:=True
def tw3957109627316381157:=True
def tw10701400969741093183:=True
def tw1886024232942872367:=True
def tw4804039278679919503:=True
def tw8536899018879248922:=True
def tw3385644394464664963:=True
def tw18202279060391951132:=True
def tw4271518601008107891:=True
def tw13311283146401190162:=True
def tw11490729413440043033:=True
def tw18428074459855160861:=True
def tw10196830341786571833:=True
def tw12531006581153621233:=True
def tw14316134839044787024:=True
def tw6545890421672695270:=True
def tw5697837556826530634:=True
def tw1130302704369338175:=True
def tw11009740349353904936:=True
def tw15992144557512783668:=True
def tw8423303753423858088:=True
def tw18170691135348650175:=True
def tw7490769372527643198:=True
def tw9416514182430529989:=True
def tw9902534235200621277:=True
def tw1423644245382242057:=True
def tw643329957344798759:=True
def tw1943422536104463724:=True
def tw830100407269623595:=True
def tw6256785338144042192:=True
def tw461591426117584801:=True
def tw4397707490670615657:=True
def tw2634252665612548762:=True
def tw8467041753087077920:=True
def tw13826073744572322194:=True
def tw4873050126846530080:=True
def tw12956899699640047057:=True
def tw393427280886160285:=True
def tw2064690276399002359:=True
def tw6077271253704421578:=True
def tw12431457509471548065:=True
def tw17443972355342917845:=True
def tw3697446220105893516:=True
def tw10485186045130028821:=True
def tw5661005942025667036:=True
def tw8598396399756439219:=True
def tw5830437155421595195:=True
def tw6324527592789379455:=True
def tw1866811159595257620:=True
def tw18218700259072973170:=True
def tw12818525909095913966:=True
def tw14818573425276527197:=True
def tw6140028646418332115:=True
def tw13684677437265780389:=True
def tw7422278045608953412:=True
def tw11141613149231755206:=True
def tw12436690514951171678:=True
def tw11726221778991210955:=True
def tw3140358169780518144:=True
def tw11026617961598138997:=True
def tw14111298095837542560:=True
def tw6577010036062517559:=True
def tw18187767682519866960:=True
def tw13218396089532850889:=True
def tw8479911850191499589:=True
def tw5939925952755611958:=True
def tw13139372373833829209:=True
def tw15708866803195085434:=True
def tw742473874222425154:=True
def tw8312546584347753495:=True
def tw2422764193179080936:=True
def tw12400607804562832347:=True
def tw18137630879025253600:=True
def tw1613150288528472792:=True
def tw16465861602009907783:=True
def tw215944246436768251:=True
def tw6176991080240427670:=True
def tw7135148492516497966:=True
def tw5621923725576391613:=True
def tw9515205600929428807:=True
def tw3868395321279185787:=True
def tw10388897505868450586:=True
def tw4731205986267151346:=True
def tw7609661071329991121:=True
def tw5916292457248637427:=True
def tw14633482370665917127:=True
def tw4100855435506885965:=True
def tw1048239288625634692:=True
def tw1246660598116993003:=True
def tw10287072217545706078:=True
def tw8835728689535218752:=True
def tw12611391368027057:=True
def tw5238287460684261161:=True
def tw3621004373070960749:=True
def tw5963475852210612850:=True
def tw3537409308828303408:=True
def tw4357891579145753743:=True
def tw812400501953498048:=True
def tw1961795556567136922:=True
def tw2274754885382099545:=True
def tw4739075310994357485:=True
def tw13053544085303169901:=True
def tw10474504195026148186:=True
def tw16317500422221466197:=True
def tw5810960640034731176:=True
def tw8355207387037466085:=True
def tw9278661774127919875:=True
def tw11298857907479152776:=True
def tw6046474807761595745:=True
def tw9436962730825849479:=True
def tw4964436315436218986:=True
def tw18243774977503667790:=True
def tw3191567386099337603:=True
def tw6427885687806725601:=True
def tw12458441686821724550:=True
def tw13997695033082645510:=True
def tw18074732203338832170:=True
def tw9403850708144555048:=True
def tw12866433881176251550:=True
def tw13190850437732518586:=True
def tw14548436483663194467:=True
def tw17429442197594359838:=True
def tw7285191755683274032:=True
def tw12067842287858287843:=True
def tw5240288257818611751:=True
def tw870833565250846029:=True
def tw15611665354631886545:=True
def tw8661712300822061757:=True
def tw12067740142312324231:=True
def tw11120078376307506512:=True
def tw983380248526066661:=True
def tw13839793104495555659:=True
def tw11216859182798500490:=True
def tw3020222126407714001:=True
def tw11354442532568846527:=True
def tw7879688773618819431:=True
def tw10908034106137025763:=True
def tw7626299412114840991:=True
def tw10345831140438159228:=True
def tw3751067063979560987:=True
def tw17393744666528342110:=True
def tw12964425481933361692:=True
def tw2572681236044061722:=True
def tw268628297252200177:=True
def tw16065070061810267799:=True
def tw2094887344399751876:=True
def tw7342389211008067319:=True
def tw7973182082597344190:=True
def tw12972548938540522387:=True
def tw818499486661230670:=True
def tw1075348004371035555:=True
def tw6866700548096916409:=True
def tw12890685328376904245:=True
def tw2725522274282967385:=True
def tw18229423652358481170:=True
def tw10197371813408491973:=True
def tw7477154809060597794:=True
def tw3960196012944791232:=True
def tw14701072599279521237:=True
def tw652928552877528450:=True
def tw16115740501175107465:=True
def tw7052427047399969465:=True
def tw849997325793374385:=True
def tw13005313162538232833:=True
def tw8353748968013955283:=True
def tw10494020926333902322:=True
def tw12718733451303587805:=True
def tw4644545553333632929:=True
def tw13719943899449075900:=True
def tw7797901918753046278:=True
def tw18037270974599056697:=True
def tw5898315631341544250:=True
def tw5441527687289375099:=True
def tw14222829999319833446:=True
def tw18263118472427750354:=True
def tw14680581112352910662:=True
def tw18097706380572646053:=True
def tw4118265463372319216:=True
def tw17227262038093471834:=True
def tw8752680451882389306:=True
def tw10808399565263998625:=True
def tw13428237907016271770:=True
def tw10766875058771031566:=True
def tw3837125622745269841:=True
def tw2260008538057708060:=True
def tw2028936466389563277:=True
def tw4071019659253329947:=True
def tw4999356396385371380:=True
def tw7849254011389097350:=True
def tw5856462648307257979:=True
def tw2511308141545683415:=True
def tw16219180576022595982:=True
def tw14948723957769056307:=True
def tw3791526433491212643:=True
def tw4799696549017026305:=True
def tw12943574659186200491:=True
def tw5118347078908727212:=True
def tw18044256472206064410:=True
def tw11894505060962829399:=True
def tw10146169646383575037:=True
def tw6797324338359549755:=True
def tw13967605197784227230:=True
def tw14427210294524516205:=True
def tw6066344074116279704:=True
def tw11408269306454790719:=True
def tw356771402839553608:=True
def tw1629769387453233620:=True
def tw4404243376662350129:=True
def tw8022196128914844405:=True
def tw15774175564769534500:=True
def tw4066713906456207538:=True
def tw852453637321405503:=True
def tw82972665427545529:=True
def tw18038804020156222745:=True
def tw305416519579270823:=True
def tw747299761298687734:=True
def tw13524541648863350303:=True
def tw12326787659014144546:=True
def tw11068985641439064836:=True
def tw9056154833059651265:=True
def tw2333420137105307606:=True
def tw17995216987105674799:=True
def tw17822164453834753331:=True
def tw17600848932910351980:=True
def tw6686493083567514073:=True
def tw11294332228053564547:=True
def tw15325447320397088368:=True
def tw824995386301574677:=True
def tw18041018004556782878:=True
def tw13753816124155580490:=True
def tw4481385234138764813:=True
def tw8565756473132900707:=True
def tw9543672019656314084:=True
def tw6391134267279053869:=True
def tw1861232480244529867:=True
def tw10227642403083384257:=True
def tw2154830320591344092:=True
def tw14553057732105829160:=True
def tw13910498591256696802:=True
def tw7592607648487846410:=True
def tw11140587136070418081:=True
def tw6611851561517220835:=True
def tw16506772599619913032:=True
def tw12332083459526424666:=True
def tw7444432718216647986:=True
def tw1780109076677776301:=True
def tw13913434623084041757:=True
def tw2544792537765135725:=True
def tw3345443669036478338:=True
def tw4879088969281564183:=True
def tw1158558976655243681:=True
def tw18071647760001582922:=True
def tw960576505846209840:=True
def tw15030669501013461734:=True
def tw11530563747037043609:=True
def tw15434442374117306731:=True
def tw11112933956590560099:=True
def tw7223491183683577218:=True
def tw1246669259712135637:=True
def tw4956102150053140716:=True
def tw17705666200122236507:=True
def tw12864862581625719132:=True
def tw2780143090294632604:=True
def tw4056699895292503229:=True
def tw14405209510077200584:=True
def tw10197886564243340793:=True
def tw11832865045397430062:=True
def tw8442397512195977839:=True
def tw8721825775814477590:=True
def tw11638070875259865118:=True
def tw10975528074512153178:=True
def tw12534938484358817369:=True
def tw14383172497775753537:=True
def tw17771029099262370043:=True
def tw15546987765094770306:=True
def tw14026703138536351057:=True
def tw288878535619779066:=True
def tw7270262990580936115:=True
def tw7633711637925711615:=True
def tw4881088725081665818:=True
def tw16410484190199917418:=True
def tw17358382126469338604:=True
def tw2869199836487004919:=True
def tw4900288124124326840:=True
def tw2805673091912357660:=True
def tw5104379504860495916:=True
def tw11048363723600015182:=True
def tw2560901752218827575:=True
def tw13369461402227896814:=True
def tw8364453956933018821:=True
def tw6882590421068330924:=True
def tw15861219189623799739:=True
def tw6488786596209741761:=True
def tw3940735938430668736:=True
def tw12668850069897251345:=True
def tw16125491807877990875:=True
def tw14902955057455874777:=True
def tw1818771644882281642:=True
def tw15467684170400812621:=True
def tw8962930479808842215:=True
def tw17164420556014872562:=True
def tw6562907144610617757:=True
def tw1123786535679756477:=True
def tw9849301931338526745:=True
def tw10872525000374187903:=True
def tw5218572378219768041:=True
def tw12733471522904714619:=True
def tw12255957110130392920:=True
def tw1938539287290864442:=True
def tw8979263149728321266:=True
def tw12834247518639639314:=True
def tw17776287996529178696:=True
def tw995843225736406181:=True
def tw18025286701689114675:=True
def tw12527498204819148170:=True
def tw11167656555331812626:=True
def tw16511736320644603092:=True
def tw11753152793674138280:=True
def tw11703899805918107962:=True
def tw18223790914315081904:=True
def tw12772531750437160397:=True
def tw16705816669136919765:=True
def tw8247790214665390761:=True
def tw2464618633467800661:=True
def tw12325723773339174011:=True
def tw16618415519991243499:=True
def tw5955318029854813863:=True
def tw17288309784829688263:=True
def tw3237461213412513996:=True
def tw10112367943209259179:=True
def tw16196055454132018802:=True
def tw14592771830007656153:=True
def tw16926476121217209351:=True
def tw10443734297646025223:=True
def tw7845710255593027555:=True
def tw9364013474046935175:=True
def tw5921764994447235627:=True
def tw12204727441206475754:=True
def tw17273137286812214673:=True
def tw11921885191324692524:=True
def tw17468763127885294411:=True
def tw18105939323661918890:=True
def tw5706290901212047556:=True
def tw18139260357738927020:=True
def tw12121722062531720814:=True
def tw12998305614450577551:=True
def tw1096493286557805921:=True
def tw71022154172583428:=True
def tw13285231189540675013:=True
def tw13288219389807669330:=True
def tw14866607676701181806:=True
def tw5635249385214176886:=True
def tw5881705975557389357:=True
def tw13480345535983846501:=True
def tw12258178605098831338:=True
def tw9396628017691895599:=True
def tw5610379242560274936:=True
def tw750149053873509692:=True
def tw8356575011837701858:=True
def tw13153648938931338508:=True
def tw13869028922449627053:=True
def tw7694824593786299201:=True
def tw1011070609938027253:=True
def tw5651336068487987443:=True
def tw1260589201163071981:=True
def tw12167183109629230266:=True
def tw8125998396953249772:=True
def tw15831688377129689838:=True
def tw18339589728629358283:=True
def tw10331430184881219263:=True
def tw17298494390321968346:=True
def tw9379632033571104369:=True
def tw8376088615576464260:=True
def tw5679849213154219915:=True
def tw15108492807544947842:=True
def tw6605620713992603316:=True
def tw13276609109766019811:=True
def tw12476955964814869520:=True
def tw17547895321329250714:=True
def tw6984121583070450714:=True
def tw5491056976182198268:=True
def tw4420712350505217729:=True
def tw13706976792888442962:=True
def tw15794195243290156245:=True
def tw14815782862947605775:=True
def tw10402654166995758711:=True
def tw7959463947303158270:=True
def tw6910255883223610118:=True
def tw12563563353960738971:=True
def tw5219112292927226848:=True
def tw11179025116896238651:=True
def tw14174031671403657098:=True
def tw14100892660930047311:=True
def tw2061959206599381188:=True
def tw10490180883454719707:=True
def tw2020234270232194210:=True
def tw15485254115019637871:=True
def tw12172007134605122927:=True
def tw4899572837429512592:=True
def tw2957158481706808626:=True
def tw13399250119646049292:=True
def tw13040454935304025218:=True
def tw17470867117287146633:=True
def tw10663775969004327528:=True
def tw15689824693147500577:=True
def tw12923091284864430370:=True
def tw11373875149090207598:=True
def tw5651430877393427886:=True
def tw13191683427571294220:=True
def tw11132813251245544469:=True
def tw6251841508271409695:=True
def tw11030682546063377707:=True
def tw4459550750306221713:=True
def tw9046777281363996349:=True
def tw1529018603974692597:=True
def tw6318806059278258770:=True
end PySem.W.Fast
set_option maxRecDepth 100000 in
set_option maxHeartbeats 0 in
theorem PySem.Challenge.cw_poolrules_k14_a_step_fits_holds : PySem.Challenge.rw_poolrules_k14_a_step_fits.Holds := by
 w_on;o_law;k_head;(case hw=>w_witness2)
 k_fill
 refine iI.walk (l:=PySem.Challenge.rw_poolrules_k14_a_step_fits) rfl rfl (fun w h Y=>PySem.W.kIn_of Y) ?F
 case F =>
  intro w mg fa h KX G hmg
  refine' iI.all_mk KX G hmg ..
  all_goals first|k_is|exact L2.GV (by k_is) (by k_is) (by k_is)|exact⟨by k_is,L2.GV (by k_is) (by k_is) (by k_is)⟩|k_exc|kts_exm|skip
