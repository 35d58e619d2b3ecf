import PyProof.Rows.All
import Wide.All
import OpenK.AllK
import Wide.FinOn
import Lean
import PyProof.EqAt
import PyProof.EqKinds
import PyProof.TupleCall
import KE.KIntText
import KE.KDictList
import KE.KDictOf
import PyProof.AttrMissHeap
import PyProof.DictUpdate
import PyProof.ToksMono
import PyProof.NeKinds
import PyProof.EnumFor
import PyProof.EnumStmt
import PyProof.EnumMake
import KE.KRevIter
import PyProof.StrOps2
import PyProof.ZipIter
import PyProof.SumWalkG
import KE.KMinKey
import KE.KTryMore
import KE.KSortAsk
import KE.KSortTup
import KE.KDictLaws
import KE.KItemsList
import KE.RegKTryMore
import KE.KIsNot
import PyProof.WalkInts
import PyProof.SeqI3
import PySem.Challenge.RW_poolrules_k12_lines_refused
set_option Elab.async false
set_option linter.all false
set_option maxRecDepth 100000
open PySem.Str renaming ofString->Wn,empty->Yk,join->aaP
open PySem.W renaming Frag->Wo,excIn->Xo,mg_none_of->Xq,hideAll->Xr,emptyDict->XH,kitOne->XI,plainGet->XX,findIn->XY,hasDictIn->X1,instObj->X2,keepIn->X8,plainOver->Yb,fnOf->Yg,typeIn->Yl,makesIn->Yr,isClsIn->Yt,callWith_K->YH,exmOne->YV,methodCall_KW->YX,hideAll_get->Y8,plainGet_of->Za,of_hideAll->Zl,lookIn->Zr,codeIn->Zt,notCls->Zu,methodObj->Zx,specialIn->ZD,cellsFrom_some->ZR,takerIn->Z1,OpenLaw->Z5,hideAll_none->aae,mg_of->aaD,isFn->aaJ,nsIn->aaM,handedIn->aaN
open List renaming length_append->Wq,getElem?_eq_some_iff->Wv,mem_cons_of_mem->Ww,mem_singleton->Wy,take_succ_eq_append_getElem->WB,length_cons->WC,mem_append_right->WD,size_toArray->WJ,append_assoc->WK,length_singleton->WL,map_append->WQ,mem_cons->WS,getElem_mem->WT,mem_append->WU,length_take->WV,getElem?_map->WX,mem_cons_self->WY,all_eq_true->Xa,length_drop->Xc,map_cons->Xd,append_nil->Xh,all_append->Xi,mem_map->Xu,length_nil->Xv,getElem_map->Xw,mem_append_left->Xx,mem_of_getElem?->Xy,mem_of_mem_take->Xz,take_of_length_le->XA,drop_eq_getElem_cons->XD,lookup_cons->XE,length->XF,all_cons->XJ,take_length->XN,flatMap_append->XR,map_map->XT,range->X0,find?_cons->X4,take_append_drop->X7,nodup_append->Ye,filterMap_cons->Yi,getElem?_set_self->Ym,filter_append->Yq,getElem?_append_right->Yv,mem_of_mem_drop->Yw,mem_range->Yx,drop_zero->Yz,any_eq_true->YA,lookup->YC,mem_filter->YF,mem_filterMap->YG,nodup_cons->YI,any_cons->YJ,nil_append->YO,drop_drop->YW,map_nil->YY,length_filter_le->YZ,dropLast_sublist->Y1,getElem?_eq_none->Y3,filter_cons->Y4,getElem?_set_ne->Y6,takeWhile_cons->Zc,dropWhile_cons->Zd,range_succ->Ze,getElem?_eq_none_iff->Zq,getElem?_cons_succ->ZH,sum_cons->ZK,map_drop->ZL,cons_append->ZP,getLast_mem->ZQ,drop_eq_nil_of_le->ZY,of_mem_zip->Z3,eq_nil_or_concat->Z9,concat_eq_append->aaa,map_id->aaw,all_map->aaL
open PySem renaming Value->Wr,Shared->Ws,sizeLine->Wt,wpAny_bind->Wu,Addr->WA,wpAny_pure->WI,Program->WM,mainGlobals->WN,boot_len->W0,wpAny->W7,Around->Xf,World->Xj,FuncData->Xk,mem_of_lookup->Xt,sizeLine_eq->XQ,Within->aaI
open PySem.Heap renaming get?_push_of_some->Wx,lt_size->WH,get?_push_size->Xb,SameBut->Zm,FlyingW->Zp,size_push->Zs,get?_update_other->ZT
open Nat renaming le_refl->Wz,lt_of_lt_of_le->WR,ne_of_lt->W2,le_trans->W5,zero_le->Xs,lt_irrefl->X6,le_of_ble_eq_true->Y2,lt_succ_self->ZM,le_of_not_lt->ZN,le_of_lt->Z0
open Bool renaming false_ne_true->WE,and_eq_true->WG,eq_iff_iff->Ya,not_eq_true'->Yd,false_eq_true->YK,true_and->YR,and_false->YU,beq_eq_decide_eq->Z6,or_eq_true->aab,false_and->aal,false_or->aaB
open PySem.Paired renaming length->WW,snoc->aaR
open PySem.F renaming plainAttrs_list->WZ,slot_list_append->W4,type_list_append->W9,slot_list_extend->XZ,slot_list_getattribute->Yh,slot_str_split->Yn,plainAttrs_str->Yo,args_str_split_2->YD,type_list_extend->YE,entry_str_split->YM,slot_dict_get->Y0,excBase_ValueError->Zi,slot_tuple_index->ZA,args_list_extend_2->ZG,args_dict_get_3->ZI,entry_list_extend->ZU,entry_dict_get->ZV,slot_str_join->aac,type_str_join->aad
open Sum renaming inr->W3,inl->aaE
open Or renaming inl->W6,inr->aam
open PySem.W.KT renaming app_list->W8
open Option.some renaming inj->Xe
open PySem.Value renaming ref->Xg,str->XO,builtin->YN,none->Zv,bool->Zw,int->aaQ
open Ne renaming symm->Xl
open PyProof.Rows renaming slot_tuple_getitem->Xm,boot_isinstance->Xp,callWith_type1->Y9
open PySem.PassesOwn renaming never->Xn
open PySem.PyData renaming str->XC,shownAll->Yu,hasDictAll->ZC,depthAll->Z8,list->aax
open False renaming elim->XG
open PySem.Txt renaming slice->XM,split->YL,stripChars->aan
open PySem.NameKind renaming free->XS,cell->aaA
open Option renaming isSome_iff_exists->XU,map_eq_some_iff->YT,none->ZF,getD_some->ZO,isSome_map->aaG
open PySem.Builtin.List renaming listTooLong->XW
open ForInStep renaming yield->X3
open Array renaming getElem?_eq_some_iff->X5,append_assoc->Yp,length_toList->YB,getD_eq_getD_getElem?->Zb,mem_toList_iff->aaf
open PySem.Builtin.Slice renaming slicePlaces->X9,sliceAdjust->Yy,sliceApplied->Zg
open PySem.Builtin.Tuple renaming tupleExact->Yc,tupleItemsOf->Zh
open PySem.StrLaws renaming found_one->Yf,glued_eq_join->Z7,reprText_len->aak
open Int renaming eq_ofNat_of_zero_le->Yj,emod_nonneg->YQ,mul_le_mul_of_nonneg_left->Y5
open PySem.Builtin.Str renaming strSliceIndices->Ys,glued->aaH
open PySem.Obj renaming mapFields->YS
open PySem.Calls renaming evalArgs_plain->Y7,Name_function_global->Zf,Constant_str->Zn,spliced_cons->Zo,callWith_builtin->ZS
open PySem.SeqAt.EqAt renaming int_str->Zj,str_int->Zk,same->Z4,none_bool->aag,bool_none->aah,bool_bool->aai,none_int->aao,none_str->aap,bool_int->aaq,bool_str->aar,int_none->aas,int_bool->aat,str_none->aau,str_bool->aav,int_int->aay,str_str->aaz
open True renaming intro->Zy
open PySem.AutoSeq1 renaming wpAny_loadPart'->Zz
open Sum.inr renaming inj->ZE
open PySem.Builtin.Dict renaming updateFrom->ZJ,pairItems->ZW
open PySem.W.Looks renaming ld->ZX
open PySem.Around renaming under->Z2,under_plainId->aaj
open PySem.W.KF renaming type_class->aaC
open PySem.SeqAt renaming EqAt->aaF
open PySem.Code renaming isFrame->aaK
open Std.Legacy renaming Range->aaO
open PySem.Heap.DictOf renaming new->aaS
theorem Lm9 {α:Type _} {β:Type _} {as:List α} (f:α→β):(as.map f).length=as.length:=List.length_map f
theorem Ge9 {α:Type _} {l:List α} {i:Nat} (h:i<l.length):l[i]?=some l[i]:=List.getElem?_eq_getElem h
theorem Gd9 {α:Type _} {l:List α} {i:Nat} {a:α}:l.getD i a=(l[i]?).getD a:=List.getD_eq_getElem?_getD
namespace L2
open PySem PySem.Spec PyProof.Rows
abbrev Key:=Sum Int Str
def su:Key→Wr→Bool
 | .inl k,v=>Value.isInt k v
 | .inr x,v=>Value.isStrOf x v
def Ny (w:Xj):Key→Int
 | .inl k=>hashInt k
 | .inr x=>hashStr w x
theorem bK:∀{k:Key} {v:Wr},su k v=true→(∃i t,k=aaE i∧v=aaQ i t)∨(∃x t,k=W3 x∧v=XO x t)
 | .inl i,v,h=>by
  obtain⟨t,e⟩:=Value.isInt_shape (k:=i) (v:=v) h
  exact .inl ⟨i,t,rfl,e⟩
 | .inr x,v,h=>by
  obtain⟨t,e⟩:=Value.isStrOf_shape (x:=x) (v:=v) h
  exact .inr ⟨x,t,rfl,e⟩
theorem AQ (i:Int) (t:Tok):su (.inl i) (.int i t)=true:=by simp [su,Value.isInt]
theorem AR (x:Str) (t:Tok):su (.inr x) (.str x t)=true:=by simp [su,Value.isStrOf]
theorem G8 (a b:Int):decide ((aaE a:Key)=aaE b)=(a == b):=by
 by_cases e:a=b
 ·subst e;simp
 ·have h:¬ (aaE a:Key)=aaE b:=fun q=>e (Sum.inl.inj q)
  rw [decide_eq_false h]
  exact(beq_eq_false_iff_ne.mpr e).symm
theorem G9 (a b:Str):decide ((W3 a:Key)=W3 b)=decide (a=b):=by
 by_cases e:a=b
 ·subst e;simp
 ·have h:¬ (W3 a:Key)=W3 b:=fun q=>e (ZE q)
  rw [decide_eq_false h,decide_eq_false e]
theorem Ha (a:Int) (b:Str):decide ((aaE a:Key)=W3 b)=false:=decide_eq_false (fun q=>nomatch q)
theorem Hb (a:Str) (b:Int):decide ((W3 a:Key)=aaE b)=false:=decide_eq_false (fun q=>nomatch q)
def bq (prog:WM) (w:Xj):PySem.KeyKind prog w Key where
 is:=su
 hash:=Ny w
 inj:=fun v a b ha hb=>by
  rcases bK ha with⟨i,t,rfl,rfl⟩|⟨x,t,rfl,rfl⟩
  ·rcases bK hb with⟨j,u,rfl,e⟩|⟨y,u,rfl,e⟩
   ·injection e with e1 _;rw [e1]
   ·exact nomatch e
  ·rcases bK hb with⟨j,u,rfl,e⟩|⟨y,u,rfl,e⟩
   ·exact nomatch e
   ·injection e with e1 _;rw [e1]
 byValue:=fun k v h=>by
  rcases bK h with⟨i,t,rfl,rfl⟩|⟨x,t,rfl,rfl⟩ <;> rfl
 pyHash:=fun hv h=>by
  rcases bK hv with⟨i,t,rfl,rfl⟩|⟨x,t,rfl,rfl⟩
  ·exact wpAny_pyHash_int h
  ·exact wpAny_pyHash_str h
 eqBool:=fun hu hv h=>by
  rcases bK hu with⟨i,t,rfl,rfl⟩|⟨x,t,rfl,rfl⟩
  ·rcases bK hv with⟨j,u,rfl,rfl⟩|⟨y,u,rfl,rfl⟩
   ·rw [G8] at h;exact wpAny_eqBool_int h
   ·rw [Ha] at h;exact Zj i t y u _ _ _ _ h
  ·rcases bK hv with⟨j,u,rfl,rfl⟩|⟨y,u,rfl,rfl⟩
   ·rw [Hb] at h;exact Zk x t j u _ _ _ _ h
   ·rw [G9] at h;exact wpAny_eqBool_str h
 «strs»:=fun k x t v h=>by
  rcases bK h with⟨i,u,rfl,e⟩|⟨y,u,rfl,e⟩
  ·exact nomatch e
  ·injection e with e1 _
   subst e1
   cases v <;> rfl
theorem v9 (prog:WM) (w:Xj) (i:Int) (t:Tok):(bq prog w).is (.inl i) (.int i t)=true:=AQ i t
theorem wa (prog:WM) (w:Xj) (x:Str) (t:Tok):(bq prog w).is (.inr x) (.str x t)=true:=AR x t
end L2
namespace L2
open PySem PySem.Spec PyProof.Rows
inductive V where
 | bG|bl (b:Bool)|int (i:Int)|str (x:Str)|Cd (b:Array UInt8)|MJ (b:UInt64)|ref (a:WA)|ty (n:String)|tok (x:Str) (t:Nat)
 deriving DecidableEq
def V.pl:V→Bool
 | .tok _ _=>false
 | _=>true
def RelV:V→Wr→Prop
 | .bG,u=>u=Zv
 | .bl b,u=>u=Zw b
 | .int i,u=>∃t,u=aaQ i t
 | .str x,u=>∃t,u=XO x t
 | .Cd b,u=>∃t,u=Value.bytes b t
 | .MJ b,u=>∃t,u=Value.float b t
 | .ref a,u=>u=Xg a
 | .ty n,u=>u=Value.type n
 | .tok x t,u=>u=XO x t
abbrev Vals:List V→List Wr→Prop:=Paired RelV
theorem Vals.length {xs:List V} {us:List Wr} (r:Vals xs us):xs.length=us.length:=WW r
theorem Vals.get:∀{xs:List V} {us:List Wr} {i:Nat} {x:V},Vals xs us→xs[i]?=some x→∃u,us[i]?=some u∧RelV x u
 | _,_,_,_,.nil,e=>by simp at e
 | _,_,0,_,.cons r _,e=>by simp at e;subst e;exact⟨_,rfl,r⟩
 | _,_,i+1,x,.cons _ t,e=>by
  obtain⟨u,h1,h2⟩:=Vals.get (i:=i) (x:=x) t (by simpa using e)
  exact⟨u,by simpa using h1,h2⟩
theorem Vals.append:∀{xs ys:List V} {us ws:List Wr},Vals xs us→Vals ys ws→Vals (xs++ys) (us++ws)
 | _,_,_,_,.nil,s=>s
 | _,_,_,_,.cons r t,s=>.cons r (Vals.append t s)
theorem Vals.take:∀{xs:List V} {us:List Wr} (n:Nat),Vals xs us→Vals (xs.take n) (us.take n)
 | _,_,0,_=>.nil
 | _,_,_+1,.nil=>.nil
 | _,_,n+1,.cons r t=>.cons r (Vals.take n t)
theorem Vals.drop:∀{xs:List V} {us:List Wr} (n:Nat),Vals xs us→Vals (xs.drop n) (us.drop n)
 | _,_,0,r=>r
 | _,_,_+1,.nil=>.nil
 | _,_,n+1,.cons _ t=>Vals.drop n t
theorem Vals.none_of:∀{xs:List V} {us:List Wr} {i:Nat},Vals xs us→xs[i]?=none→us[i]?=none:=fun {xs us i} r e=>by
 have h1:=r.length
 have h2:xs.length≤i:=Zq.mp e
 exact Zq.mpr (by omega)
def iM:Option V→Option Wr→Prop
 | some v,some u=>RelV v u
 | none,none=>True
 | _,_=>False
def KV {κ:Type}:List (κ × V)→List (κ × Wr)→Prop:=Paired fun(p:κ × V) (q:κ × Wr)=>p.1=q.1∧RelV p.2 q.2
def kV:Key→V
 | .inl i=>.int i
 | .inr x=>.str x
inductive HO where
 | lst (xs:List V)
 | tup (xs:List V)
 | dK (kvs:List (Key × V))|dT (kvs:List (List Key × V))
 | set (S:Int→Bool) (n:Nat)
 | ins (C dx:WA) (fs:List (Str × V))
 | own (x:WA)
 | xd (fs:List (Str × V))
 | met (f x:WA)
 | MK (lo hi:Int)
 | oR (o:Obj) (u:HO)
 | Ce (ps:Array Wr)
 | ext (φ:Heap→Prop)
abbrev Hp:=WA→Option HO
def upd (H:Hp) (a:WA) (o:HO):Hp:=fun b=>if b=a then some o else H b
theorem ae {H:Hp} {a:WA} {o:HO}:upd H a o a=some o:=by unfold upd;rw [if_pos rfl]
theorem aw {H:Hp} {a b:WA} {o:HO} (h:b≠a):upd H a o b=H b:=by unfold upd;rw [if_neg h]
theorem wb {H:Hp} {a b:WA} {o u:HO} (h:H a=some o) (h':H b=some u) (d:o≠u):a≠b:=by
 intro e;subst e;rw [h] at h';exact d (Xe h')
theorem au {H:Hp} {a b:WA} {o:HO} (h:H a=some o) (h':H b=none):a≠b:=by
 intro e;subst e;rw [h] at h';cases h'
section
variable (P:WM) (w:Xj)
def cF (H:Hp) (h:Heap) (a:WA):HO→Prop
 | .lst xs=>xs.length≤Wt∧∃(its:List Wr) (n:Nat),Vals xs its∧h.get? a=some { cls:=.type "list",data:=.seq its.toArray n }
 | .tup xs=>xs.length≤Wt∧∃its:List Wr,Vals xs its∧IsTup h a its.toArray
 | .dK kvs=>kvs.length≤Wt∧(a == sysModules)=false∧∃vs,KV kvs vs∧h.DictOf (bq P w) a vs
 | .dT kvs=>kvs.length≤Wt∧(a == sysModules)=false∧∃xs:List (List Key × WA × Wr),
   Paired (fun(p:List Key × V) (q:List Key × WA × Wr)=>p.1=q.1∧H q.2.1=some (.tup (p.1.map kV))∧RelV p.2 q.2.2) kvs xs ∧
   ∃o es ep,h.get? a=some o∧o.ExactDict∧o.data=.dict es ep∧es.toList=xs.map (entryOfKey (tupleKind (bq P w)))∧(xs.map (·.1)).Nodup
 | .set S n=>h.SetOf (intKind P w) a S n
 | .ins C dx fs=>H dx=some (.own a)∧fs.length≤1000∧dx≠a∧h.get? a=some (X2 C dx) ∧
   ∃mA,h.Ns1 dx mA∧(∀f,iM (fs.lookup f) (mA f))∧aaI mA (fs.map (·.1))
 | .own _=>∃o,h.get? a=some o
 | .xd fs=>∃mA,h.Ns1 a mA∧∀f,iM (fs.lookup f) (mA f)
 | .MK lo hi=>∃t u v,h.get? a=some { cls:=.type "range",data:=.fields #[.int lo t,.int hi u,.int 1 v] }
 | .oR o u=>h.get? a=some o∧cF H h a u
 | .Ce ps=>h.get? a=some { cls:=.none,data:=.fields ps }
 | .met f x=>h.get? a=some (Zx (.ref f) (.ref x))
 | .ext φ=>φ h∧(∃o,h.get? a=some o)∧∀h1 h2:Heap,φ h1→(∀o,h1.get? a=some o→h2.get? a=some o)→φ h2
def gO (H:Hp) (h:Heap):Prop:=∀a o,H a=some o→cF P w H h a o
end
section
variable {P:WM} {w:Xj} {H H':Hp} {h h':Heap} {a:WA} {o:HO}
theorem cF.lt (x:cF P w H h a o):a<h.objs.size:=by
 cases o with
 | lst xs=>obtain⟨_,_,_,_,e⟩:=x;exact WH e
 | tup xs=>obtain⟨_,_,_,p⟩:=x;exact p.lt
 | dK kvs=>obtain⟨_,_,_,_,o,_,_,e,_⟩:=x;exact WH e
 | dT kvs=>obtain⟨_,_,_,_,o,_,_,e,_⟩:=x;exact WH e
 | set S n=>obtain⟨o,_,_,_,e,_⟩:=x;exact WH e
 | ins C dx fs=>obtain⟨_,_,_,e,_⟩:=x;exact WH e
 | own y=>obtain⟨_,e⟩:=x;exact WH e
 | xd fs=>obtain⟨_,⟨_,_,_,e,_⟩,_⟩:=x;exact WH e
 | MK lo hi=>obtain⟨_,_,_,e⟩:=x;exact WH e
 | oR ob u=>obtain⟨e,_⟩:=x;exact WH e
 | Ce ps=>exact WH (show h.get? a=some _ from x)
 | met f y=>exact WH (show h.get? a=some _ from x)
 | ext φ=>obtain⟨_,⟨_,e⟩,_⟩:=x;exact WH e
theorem Paired.cP {α β:Type} {F G:α→β→Prop}:∀{l₁:List α} {l₂:List β},Paired F l₁ l₂→(∀a b,F a b→G a b)→Paired G l₁ l₂
 | _,_,.nil,_=>.nil
 | _,_,.cons r t,f=>.cons (f _ _ r) (Paired.cP t f)
theorem cF.wc (x:cF P w H h a o) (k:∀b u,(b=a∨H b=some (.own a))→h.get? b=some u→h'.get? b=some u)
  (ho:∀b,H b=some (.own a)→H' b=some (.own a)) (ht:∀b xs,H b=some (.tup xs)→H' b=some (.tup xs)):cF P w H' h' a o:=by
 induction o with
 | lst xs=>obtain⟨z,its,n,r,e⟩:=x;exact⟨z,its,n,r,k _ _ (.inl rfl) e⟩
 | tup xs=>obtain⟨z,its,r,ob,e,c⟩:=x;exact⟨z,its,r,ob,k _ _ (.inl rfl) e,c⟩
 | dK kvs=>obtain⟨z,y,vs,r,ob,es,ep,e,c⟩:=x;exact⟨z,y,vs,r,ob,es,ep,k _ _ (.inl rfl) e,c⟩
 | dT kvs =>
  obtain⟨z,y,xs,r,ob,es,ep,e,c⟩:=x
  exact⟨z,y,xs,Paired.cP r fun p q z=>⟨z.1,ht _ _ z.2.1,z.2.2⟩,ob,es,ep,k _ _ (.inl rfl) e,c⟩
 | set S n=>obtain⟨ob,es,ep,t,e,c⟩:=x;exact⟨ob,es,ep,t,k _ _ (.inl rfl) e,c⟩
 | ins C dx fs =>
  obtain⟨d,z,ne,e,mA,⟨od,es,ep,e2,c⟩,r⟩:=x
  exact⟨ho _ d,z,ne,k _ _ (.inl rfl) e,mA,⟨od,es,ep,k _ _ (.inr d) e2,c⟩,r⟩
 | own y=>obtain⟨ob,e⟩:=x;exact⟨ob,k _ _ (.inl rfl) e⟩
 | xd fs=>obtain⟨mA,⟨od,es,ep,e,c⟩,r⟩:=x;exact⟨mA,⟨od,es,ep,k _ _ (.inl rfl) e,c⟩,r⟩
 | MK lo hi=>obtain⟨t,u,v,e⟩:=x;exact⟨t,u,v,k _ _ (.inl rfl) e⟩
 | oR ob u ih=>obtain⟨e,q⟩:=x;exact⟨k _ _ (.inl rfl) e,ih q⟩
 | Ce ps =>
  have e:h.get? a=some { cls:=.none,data:=.fields ps }:=x
  show h'.get? a=some { cls:=.none,data:=.fields ps }
  exact k a _ (.inl rfl) e
 | met f y =>
  have e:h.get? a=some (Zx (.ref f) (.ref y)):=x
  show h'.get? a=some (Zx (.ref f) (.ref y))
  exact k a _ (.inl rfl) e
 | ext φ=>obtain⟨p,⟨o,e⟩,st⟩:=x;exact⟨st _ _ p fun o q=>k _ _ (.inl rfl) q,⟨o,k _ _ (.inl rfl) e⟩,st⟩
theorem gO.lt (x:gO P w H h) (e:H a=some o):a<h.objs.size:=(x a o e).lt
theorem gO.fresh (x:gO P w H h) (e:h.objs.size≤a):H a=none:=by
 cases q:H a with
 | none=>rfl
 | some u=>exact absurd (WR (x.lt q) e) (X6 _)
theorem gO.kept (x:gO P w H h) (k:∀b u,h.get? b=some u→h'.get? b=some u):gO P w H h':=fun a o e =>
 (x a o e).wc (fun b u _ q=>k b u q) (fun _ q=>q) fun _ _ q=>q
theorem gO.laid (x:gO P w H h) (k:∀b u,h.get? b=some u→h'.get? b=some u) (hp:h.objs.size≤a) (new:cF P w (upd H a o) h' a o):gO P w (upd H a o) h':=fun b u e=>by
 have hn:=x.fresh hp
 by_cases hb:b=a
 ·subst hb;rw [ae] at e;cases e;exact new
 ·rw [aw hb] at e
  exact(x b u e).wc (fun c v _ q=>k c v q) (fun c q=>by rw [aw (au q hn)];exact q) fun c xs q=>by rw [aw (au q hn)];exact q
end
def Rd (H:Hp) (a:WA) (u:HO):Prop:=H a=some u∨∃o,H a=some (.oR o u)
theorem Rd.ok {P:WM} {w:Xj} {H:Hp} {h:Heap} {a:WA} {u:HO} (r:Rd H a u) (x:gO P w H h):cF P w H h a u:=by
 rcases r with r|⟨o,r⟩
 ·exact x a u r
 ·obtain⟨_,q⟩:=x a _ r
  exact q
def JN:Option HO→Prop
 | some (.lst _)=>True
 | some (.dK _)=>True
 | some (.dT _)=>True
 | some (.set _ _)=>True
 | some (.ins _ _ _)=>True
 | some (.ext _)=>True
 | _=>False
section
variable {P:WM} {w:Xj} {H:Hp} {h h':Heap} {x e:WA} {o':HO}
theorem gO.write (ok:gO P w H h) (mu:JN (H x)) (he:e=x∨H e=some (.own x)) (k:∀b u,b≠e→h.get? b=some u→h'.get? b=some u) (Jq:∃u,h'.get? e=some u)
  (new:cF P w (upd H x o') h' x o'):gO P w (upd H x o') h':=fun b u q=>by
 have JO:∀c y,H c=some (.own y)→c≠x:=fun c y r z=>by subst z;rw [r] at mu;exact mu
 have Nz:∀c xs,H c=some (.tup xs)→c≠x:=fun c xs r z=>by subst z;rw [r] at mu;exact mu
 by_cases hb:b=x
 ·subst hb;rw [ae] at q;cases q;exact new
 ·rw [aw hb] at q
  by_cases Hc:b=e
  ·have q':H b=some (.own x):=by
    rcases he with z|z
    ·exact absurd (Hc.trans z) hb
    ·rw [Hc];exact z
   rw [q] at q';cases q'
   obtain⟨v,hv⟩:=Jq
   exact⟨v,by rw [Hc];exact hv⟩
  ·refine(ok b u q).wc (fun c v hc r=>k c v ?_ r) (fun c r=>by rw [aw (JO c b r)];exact r) fun c xs r=>by rw [aw (Nz c xs r)];exact r
   rcases hc with rfl|hc
   ·exact Hc
   ·rintro rfl
    rcases he with z|z
    ·exact JO c b hc z
    ·rw [hc] at z;cases z;exact hb rfl
end
structure Un (fs ex:List WA) (H H':Hp) (h h':Heap):Prop where
 keep:∀b o,h.get? b=some o→H b=none→b∉fs→b∉ex→h'.get? b=some o
 slot:∀b o,h.get? b=some o→H b=none→b∈fs→b∉ex→∃sl,h'.get? b=some { o with slots:=sl }
 free:∀b o,h.get? b=some o→H b=none→b∉ex→H' b=none
 there:∀b o,h.get? b=some o→b∉ex→∃o',h'.get? b=some o'
 fi:∀b xs,H b=some (.tup xs)→H' b=some (.tup xs)
 eV:∀b o u,H b=some (.oR o u)→H' b=some (.oR o u)
 fj:∀b ps,H b=some (.Ce ps)→∃more,H' b=some (.Ce (ps++more))
section
variable {fs fs' ex VP:List WA} {H H1 H2:Hp} {h h1 h2 h':Heap} {a x e:WA} {o:HO}
theorem Un.any (u:Un fs ex H H1 h h1) {b:WA} {ob:Obj} (q:h.get? b=some ob) (n:H b=none) (hx:b∉ex):∃sl,h1.get? b=some { ob with slots:=sl }:=by
 by_cases hb:b∈fs
 ·exact u.slot b ob q n hb hx
 ·exact⟨ob.slots,u.keep b ob q n hb hx⟩
theorem Un.trans (a:Un fs ex H H1 h h1) (b:Un fs ex H1 H2 h1 h2):Un fs ex H H2 h h2 where
 keep:=fun c ob q n hc hx=>b.keep c ob (a.keep c ob q n hc hx) (a.free c ob q n hx) hc hx
 slot:=fun c ob q n hc hx=>by
  obtain⟨sl,e1⟩:=a.slot c ob q n hc hx
  obtain⟨sl',e2⟩:=b.slot c _ e1 (a.free c ob q n hx) hc hx
  exact⟨sl',e2⟩
 free:=fun c ob q n hx=>by
  obtain⟨o',e1⟩:=a.there c ob q hx
  exact b.free c o' e1 (a.free c ob q n hx) hx
 there:=fun c ob q hx=>by
  obtain⟨o',e1⟩:=a.there c ob q hx
  exact b.there c o' e1 hx
 fi:=fun c xs q=>b.fi c xs (a.fi c xs q)
 eV:=fun c ob xs q=>b.eV c ob xs (a.eV c ob xs q)
 fj:=fun c ps q=>by
  obtain⟨m1,e1⟩:=a.fj c ps q
  obtain⟨m2,e2⟩:=b.fj c _ e1
  exact⟨m1++m2,by rw [e2,Yp]⟩
theorem Un.kept (k:∀b u,h.get? b=some u→h'.get? b=some u):Un fs ex H H h h' :=
 ⟨fun b ob q _ _ _=>k b ob q,fun b ob q _ _ _=>⟨ob.slots,k b ob q⟩,fun _ _ _ n _=>n,fun b ob q _=>⟨ob,k b ob q⟩,fun _ _ q=>q,fun _ _ _ q=>q,fun _ ps q=>⟨#[],by rw [q];simp⟩⟩
theorem Un.refl:Un fs ex H H h h:=Un.kept fun _ _ q=>q
theorem Un.laid (k:∀b u,h.get? b=some u→h'.get? b=some u) (hp:h.objs.size≤a) (hn:H a=none):Un fs ex H (upd H a o) h h' where
 keep:=fun b u q _ _ _=>k b u q
 slot:=fun b u q _ _ _=>⟨u.slots,k b u q⟩
 free:=fun b u q n _=>by rw [aw (W2 (WR (WH q) hp))];exact n
 there:=fun b u q _=>⟨u,k b u q⟩
 fi:=fun b xs q=>by rw [aw (au q hn)];exact q
 eV:=fun b u xs q=>by rw [aw (au q hn)];exact q
 fj:=fun b ps q=>⟨#[],by rw [aw (au q hn),q];simp⟩
theorem Un.write (mu:JN (H x)) (he:e=x∨H e=some (.own x)) (k:∀b u,b≠e→h.get? b=some u→h'.get? b=some u) (Jq:∃u,h'.get? e=some u):Un fs ex H (upd H x o) h h':=by
 have hx:∀b,H b=none→b≠x:=fun b n z=>by subst z;rw [n] at mu;exact mu
 have hb:∀b,H b=none→b≠e:=fun b n z=>by
  subst z
  rcases he with r|r
  ·exact hx b n r
  ·rw [n] at r;cases r
 have hm:∀b u,H b=some u→¬ JN (some u)→b≠x:=fun b u q nm z=>by subst z;rw [q] at mu;exact nm mu
 refine⟨fun b u q n _ _=>k b u (hb b n) q,fun b u q n _ _=>⟨u.slots,k b u (hb b n) q⟩,fun b u q n _=>by rw [aw (hx b n)];exact n,fun b u q _=>?_,
  fun b xs q=>by rw [aw (hm b _ q fun z=>z)];exact q,fun b u xs q=>by rw [aw (hm b _ q fun z=>z)];exact q,fun b ps q=>⟨#[],by rw [aw (hm b _ q fun z=>z),q];simp⟩⟩
 by_cases Hc:b=e
 ·subst Hc;exact Jq
 ·exact⟨u,k b u Hc q⟩
end
def ML (h:Heap) (H:Hp):List WA:=(X0 h.objs.size).filter fun a=>(H a).isSome
def tT (h:Heap) (H:Hp):Heap:=Xr h (ML h H)
theorem AS (h:Heap) (H:Hp):(tT h H).objs.size=h.objs.size:=PySem.W.hideAll_size _ _
theorem Ck {h:Heap} {H:Hp} {b:WA} {o:Obj} (e:h.get? b=some o) (n:H b=none):(tT h H).get? b=some o :=
 Y8 _ e fun hm=>by
  have q:(H b).isSome=true:=(YF.mp hm).2
  rw [n] at q;simp at q
theorem Ey {h:Heap} {H:Hp} {b:WA} {o:Obj} (e:(tT h H).get? b=some o):h.get? b=some o∧H b=none:=by
 have e':h.get? b=some o:=Zl (ML h H) e
 refine⟨e',?_⟩
 cases q:H b with
 | none=>rfl
 | some x =>
  have hm:b∈ML h H:=YF.mpr ⟨Yx.mpr (WH e'),by simp [q]⟩
  have z:(tT h H).get? b=none:=aae (ML h H) hm
  rw [z] at e;cases e
end L2
namespace L2
open PySem PySem.Spec PyProof.Rows
structure Mod (K:Wo) (mg:Str→Option Wr) (base:Heap):Prop where
 Gk:K.In base
 glob:base.Ns WN mg
 blt:∃mb,base.Ns builtinsNs mb∧∀x:Str,x≠"__name__"→mb x=bootBuiltins x
 nolimit:base.NoLimit
structure Cx where
 prog:WM
 w:Xj
 K:Wo
 mg:Str→Option Wr
 base:Heap
 A:Xf
 N:List Str
 s₀:Ws
 H₀:Hp
 env:Env
 outer:List Env
 stack:List Env
 ex:List WA
 fn:Str→Bool
 calm:Bool
 pn:List (WA × Obj)
 xe:Wr→Ws→Prop
def cR (l:List Env):List WA:=l.filterMap (·.frame)
abbrev Cx.fs (X:Cx):List WA:=cR X.outer
def MM (sc:Scope) (x:Str):Prop:=sc.names.lookup x=some .local∨sc.names.lookup x=some .cell∨sc.names.lookup x=some .free
def Loc (sc:Scope) (x:Str):Prop:=sc.names.lookup x=some .local∨sc.names.lookup x=some .cell
def Look (env:Env) (h:Heap) (m:Str→Option Wr) (x:Str) (u:Wr):Prop :=
 (env.kindOf x=some .local∧m x=some u)∨((env.kindOf x=some .cell∨env.kindOf x=some .free)∧∃c,env.cells.lookup x=some c∧h.IsCell c (some u))
structure Cx.Ok (X:Cx):Prop where
 mod:Mod X.K X.mg X.base
 kind:X.env.scope.kind=.function
 glob:X.env.globals=WN
 blt:X.env.builtins=builtinsNs
 above:X.s₀.heap.objs.size≤X.env.locals
 inj:∀x y c,X.env.cells.lookup x=some c→X.env.cells.lookup y=some c→x=y
 has:∀x,(X.env.kindOf x=some .cell∨X.env.kindOf x=some .free)→∃c,X.env.cells.lookup x=some c
 Hd:∀x c,X.fn x=true→X.env.cells.lookup x=some c→X.s₀.heap.objs.size≤c
 hd:X.calm=true→X.A.handled=none
 frames:X.A.frames=some X.stack
 Jr:X.stack=X.outer∨(X.stack=X.env::X.outer∧X.env.frame=some X.env.locals)
 NA:∀b∈X.ex,b≠X.env.locals∧∀x c,X.env.cells.lookup x=some c→c≠b
 bs:∀b o,X.base.get? b=some o→X.s₀.heap.get? b=some o∧X.H₀ b=none
 Ep:X.base.objs.size≤X.s₀.heap.objs.size
 AU:∀b o,X.base.get? b=some o→b∉X.ex
 Cm:∀b∈X.ex,b∉X.fs
 ly:X.s₀.heap.FunFrames X.base X.outer
 Gm:∀b∈X.fs,X.H₀ b=none
structure Inv (X:Cx) (pins:List (WA × Obj)) (σ:List (Option V)) (H:Hp) (s:Ws):Prop where
 ok:X.Ok
 os:s.os=X.s₀.os
 bare:AllBare s.gens
 base:Un X.fs X.ex X.H₀ H X.s₀.heap s.heap
 loc:∃m,s.heap.Ns X.env.locals m∧∀(i:Nat) (x:Str) (v:V),X.N[i]?=some x→σ[i]?=some (some v)→MM X.env.scope x→∃u,RelV v u∧Look X.env s.heap m x u
 cell:∀x c,X.env.cells.lookup x=some c→∃v,s.heap.IsCell c v
 free:H X.env.locals=none
 fm:∀x c,X.env.cells.lookup x=some c→H c=none
 pin:∀p∈X.pn++pins,s.heap.get? p.1=some p.2∧H p.1=none∧p.1≠X.env.locals∧p.1∉X.fs∧∀v,p.2.data≠.cell v
 hok:gO X.prog X.w H s.heap
 len:σ.length=X.N.length
section
variable {X:Cx} {pins:List (WA × Obj)} {σ:List (Option V)} {H H':Hp} {s:Ws} {h':Heap}
theorem Cx.Ok.NB (ok:X.Ok) {b:WA} {o:Obj} (e:X.base.get? b=some o):b∉X.fs:=fun hb=>by
 have:=(ok.ly.mem hb).1
 rw [e] at this;cases this
theorem Inv.bs (I:Inv X pins σ H s):∀b o,X.base.get? b=some o→s.heap.get? b=some o∧H b=none:=fun b o e =>
 ⟨I.base.keep b o (I.ok.bs b o e).1 (I.ok.bs b o e).2 (I.ok.NB e) (I.ok.AU b o e),I.base.free b o (I.ok.bs b o e).1 (I.ok.bs b o e).2 (I.ok.AU b o e)⟩
theorem Inv.bk (I:Inv X pins σ H s):∀b o,X.base.get? b=some o→s.heap.get? b=some o:=fun b o e=>(I.bs b o e).1
theorem Inv.mod (I:Inv X pins σ H s):Mod X.K X.mg X.base:=I.ok.mod
theorem Inv.vY (I:Inv X pins σ H s):X.K.In s.heap:=I.ok.mod.Gk.keeps I.bk
theorem Inv.nolimit (I:Inv X pins σ H s):s.heap.NoLimit:=I.ok.mod.nolimit.keeps I.bk
theorem Inv.lt (I:Inv X pins σ H s):X.env.locals<s.heap.objs.size:=let ⟨_,hn,_⟩:=I.loc;hn.lt
theorem Inv.sz (I:Inv X pins σ H s):X.s₀.heap.objs.size≤s.heap.objs.size:=W5 I.ok.above (Z0 I.lt)
theorem Inv.NC (I:Inv X pins σ H s) {a:WA} (h:s.heap.objs.size≤a):a∉X.fs:=fun hb=>by
 obtain⟨_,o,ho,_⟩:=I.ok.ly.mem hb
 exact absurd (WR (WH ho) (W5 I.sz h)) (X6 _)
theorem Inv.AV (I:Inv X pins σ H s):∀x c,X.env.cells.lookup x=some c→c≠X.env.locals:=fun x c e z=>by
 obtain⟨v,o,ho,hd⟩:=I.cell x c e
 obtain⟨m,⟨o',es,ep,ho',hd',_⟩,_⟩:=I.loc
 rw [z,ho'] at ho;cases ho;rw [hd'] at hd;cases hd
theorem Inv.ly (I:Inv X pins σ H s):s.heap.FunFrames X.base X.outer:=by
 have all:∀(l:List Env),(∀b∈cR l,b∈X.fs)→X.s₀.heap.FunFrames X.base l→s.heap.FunFrames X.base l:=by
  intro l
  induction l with
  | nil=>intro _ _;trivial
  | cons env r ih =>
   intro hs hl
   obtain⟨hk,⟨L,o,hf,hn,ho,hd⟩,hr⟩:=hl
   have hL:L∈X.fs:=hs L (by unfold cR;rw [Yi,hf];exact WY)
   obtain⟨sl,e⟩:=I.base.slot L o ho (I.ok.Gm L hL) hL fun z=>I.ok.Cm L z hL
   exact⟨hk,⟨L,_,hf,hn,e,hd⟩,ih (fun b hb=>hs b (by unfold cR;rw [Yi,hf];exact Ww _ hb)) hr⟩
 exact all X.outer (fun _ hb=>hb) I.ok.ly
theorem Inv.stack (I:Inv X pins σ H s):s.heap.FunFrames X.base X.stack:=by
 rcases I.ok.Jr with e|⟨e,hf⟩
 ·rw [e];exact I.ly
 ·rw [e]
  obtain⟨m,hn,_⟩:=I.loc
  refine .cons (by rw [I.ok.kind];decide) hf hn ?_ I.ly
  exact Heap.get?_none_of_le (W5 I.ok.Ep I.ok.above)
theorem Inv.pq (I:Inv X pins σ H s):∀b∈cR X.stack,b∈X.env.locals::X.fs:=fun b hb=>by
 rcases I.ok.Jr with e|⟨e,hf⟩
 ·rw [e] at hb;exact Ww _ hb
 ·rw [e] at hb
  unfold cR at hb
  rw [Yi,hf] at hb
  exact hb
theorem Inv.tU (I:Inv X pins σ H s):∀b∈cR X.stack,H b=none:=fun b hb=>by
 rcases WS.mp (I.pq b hb) with e|hb
 ·rw [e];exact I.free
 ·obtain⟨_,o,ho,_⟩:=I.ok.ly.mem hb
  exact I.base.free b o ho (I.ok.Gm b hb) fun z=>I.ok.Cm b z hb
theorem Inv.step {g':Array GenState} {t':Nat} {d':Drawn} {ch:List WA} (I:Inv X pins σ H s)
  (Er:∀b∈ch,(b∈X.ex∨X.s₀.heap.objs.size≤b)∧b≠X.env.locals∧(∀x c,X.env.cells.lookup x=some c→c≠b)∧∀p∈X.pn++pins,p.1≠b)
  (keep:∀b o,b≠X.env.locals→b∉X.fs→b∉ch→s.heap.get? b=some o→H b=none→h'.get? b=some o)
  (slot:∀b o,b≠X.env.locals→b∈X.fs→b∉ch→s.heap.get? b=some o→H b=none→∃sl,h'.get? b=some { o with slots:=sl }) (free:∀b o,b∉ch→s.heap.get? b=some o→H b=none→H' b=none)
  (there:∀b o,b∉ch→s.heap.get? b=some o→∃o',h'.get? b=some o')
  (fi:∀b xs,H b=some (.tup xs)→H' b=some (.tup xs)) (eV:∀b o u,H b=some (.oR o u)→H' b=some (.oR o u)) (fj:∀b ps,H b=some (.Ce ps)→∃more,H' b=some (.Ce (ps++more)))
  (ns:∀m,s.heap.Ns X.env.locals m→h'.Ns X.env.locals m) (hok:gO X.prog X.w H' h') (hg:AllBare g') :
  Inv X pins σ H' { s with heap:=h',gens:=g',drawn:=d',toks:=t' }:=by
 have JP:∀b o,X.s₀.heap.get? b=some o→b≠X.env.locals:=fun b o e=>W2 (WR (WH e) I.ok.above)
 have He:∀b o,X.s₀.heap.get? b=some o→b∉X.ex→b∉ch:=fun b o e hx hb=>by
  rcases(Er b hb).1 with z|z
  ·exact hx z
  ·exact absurd (WR (WH e) z) (X6 _)
 have cellK:∀x c,X.env.cells.lookup x=some c→∀v,s.heap.IsCell c v→h'.IsCell c v:=fun x c e v ⟨o,ho,hd⟩=>by
  have JQ:c∉ch:=fun z=>(Er c z).2.2.1 x c e rfl
  by_cases hc:c∈X.fs
  ·obtain⟨sl,q⟩:=slot c o (I.AV x c e) hc JQ ho (I.fm x c e)
   exact⟨_,q,hd⟩
  ·exact⟨o,keep c o (I.AV x c e) hc JQ ho (I.fm x c e),hd⟩
 refine⟨I.ok,I.os,hg,⟨fun b o e n hb hx=>?_,fun b o e n hb hx=>?_,fun b o e n hx=>?_,fun b o e hx=>?_,fun b xs e=>fi b xs (I.base.fi b xs e),fun b o xs e=>eV b o xs (I.base.eV b o xs e),fun b ps e=>?_⟩,?_,fun x c e=>?_,?_,fun x c e=>?_,fun p hp=>?_,hok,I.len⟩
 ·exact keep b o (JP b o e) hb (He b o e hx) (I.base.keep b o e n hb hx) (I.base.free b o e n hx)
 ·obtain⟨sl,e1⟩:=I.base.slot b o e n hb hx
  obtain⟨sl',e2⟩:=slot b _ (JP b o e) hb (He b o e hx) e1 (I.base.free b o e n hx)
  exact⟨sl',e2⟩
 ·obtain⟨o',e1⟩:=I.base.there b o e hx
  exact free b o' (He b o e hx) e1 (I.base.free b o e n hx)
 ·obtain⟨o',e1⟩:=I.base.there b o e hx
  exact there b o' (He b o e hx) e1
 ·obtain⟨m1,e1⟩:=I.base.fj b ps e
  obtain⟨m2,e2⟩:=fj b _ e1
  exact⟨m1++m2,by rw [e2,Yp]⟩
 ·obtain⟨m,hn,hl⟩:=I.loc
  refine⟨m,ns m hn,fun i x v e1 e2 e3=>?_⟩
  obtain⟨u,r,l⟩:=hl i x v e1 e2 e3
  refine⟨u,r,?_⟩
  rcases l with l|⟨k,c,e,z⟩
  ·exact .inl l
  ·exact .inr ⟨k,c,e,cellK x c e _ z⟩
 ·obtain⟨v,z⟩:=I.cell x c e
  exact⟨v,cellK x c e v z⟩
 ·obtain⟨m,⟨o,_,_,ho,_⟩,_⟩:=I.loc
  exact free _ o (fun z=>(Er _ z).2.1 rfl) ho I.free
 ·obtain⟨v,o,ho,hd⟩:=I.cell x c e
  exact free c o (fun z=>(Er c z).2.2.1 x c e rfl) ho (I.fm x c e)
 ·obtain⟨e,n,ne,nf,d⟩:=I.pin p hp
  have JQ:p.1∉ch:=fun z=>(Er p.1 z).2.2.2 p hp rfl
  exact⟨keep p.1 p.2 ne nf JQ e n,free p.1 p.2 JQ e n,ne,nf,d⟩
theorem Inv.un {t':Nat} (I:Inv X pins σ H s) (u:Un X.fs [] H H' s.heap h') (hok:gO X.prog X.w H' h'):Inv X pins σ H' { s with heap:=h',toks:=t' }:=by
 obtain⟨m,⟨o,es,ep,ho,r⟩,_⟩:=id I.loc
 obtain⟨sl,hL⟩:=u.any ho I.free (by simp)
 exact I.step (g':=s.gens) (d':=s.drawn) (ch:=[]) (fun _ z=>nomatch z) (fun b o _ hb _ e n=>u.keep b o e n hb (by simp)) (fun b o _ hb _ e n=>u.slot b o e n hb (by simp)) (fun b o _ e n=>u.free b o e n (by simp)) (fun b o _ e=>u.there b o e (by simp)) u.fi u.eV u.fj (fun m' hm=>by
  obtain⟨o',ND,NF,ho',r'⟩:=hm
  rw [ho] at ho';cases ho'
  exact⟨_,ND,NF,hL,r'⟩) hok I.bare
theorem Inv.call {g':Array GenState} {t':Nat} {d':Drawn} {ch:List WA} (I:Inv X pins σ H s) (u:Un (cR X.stack) ch H H' s.heap h') (hok:gO X.prog X.w H' h') (hg:AllBare g')
  (Er:∀b∈ch,(b∈X.ex∨X.s₀.heap.objs.size≤b)∧b≠X.env.locals∧(∀x c,X.env.cells.lookup x=some c→c≠b)∧∀p∈X.pn++pins,p.1≠b) :
  Inv X pins σ H' { s with heap:=h',gens:=g',drawn:=d',toks:=t' }:=by
 obtain⟨m,⟨o,es,ep,ho,r⟩,_⟩:=id I.loc
 obtain⟨sl,hL⟩:=u.any ho I.free fun z=>(Er _ z).2.1 rfl
 exact I.step (ch:=ch) Er (fun b o hL hb hc e n=>u.keep b o e n (fun z=>(WS.mp (I.pq b z)).elim hL hb) hc) (fun b o _ _ hc e n=>u.any e n hc) (fun b o hc e n=>u.free b o e n hc) (fun b o hc e=>u.there b o e hc) u.fi u.eV u.fj (fun m' hm=>by
  obtain⟨o',ND,NF,ho',r'⟩:=hm
  rw [ho] at ho';cases ho'
  exact⟨_,ND,NF,hL,r'⟩) hok hg
theorem Inv.turned {t':Nat} {it:WA} (I:Inv X pins σ H s) (k:∀b o,b≠it→s.heap.get? b=some o→h'.get? b=some o) (hn:H it=none) (hL:it≠X.env.locals)
  (h1:it∈X.ex∨X.s₀.heap.objs.size≤it) (h2:∀x c,X.env.cells.lookup x=some c→c≠it) (h3:∀p∈X.pn++pins,p.1≠it):Inv X pins σ H { s with heap:=h',toks:=t' }:=by
 have QY:∀b u,H b=some u→b≠it:=fun b u e z=>by rw [z,hn] at e;cases e
 refine I.step (g':=s.gens) (d':=s.drawn) (ch:=[it]) (fun b hb=>?_) (fun b o _ _ hc e _=>k b o (fun z=>hc (by simp [z])) e) (fun b o _ _ hc e _=>⟨o.slots,k b o (fun z=>hc (by simp [z])) e⟩) (fun _ _ _ _ n=>n)
  (fun b o hc e=>⟨o,k b o (fun z=>hc (by simp [z])) e⟩) (fun _ _ e=>e) (fun _ _ _ e=>e) (fun b ps e=>⟨#[],by rw [e];simp⟩) (fun m hm=>?_) (fun b u e=>?_) I.bare
 ·have e:b=it:=by simpa using hb
  subst e
  exact⟨h1,hL,h2,h3⟩
 ·obtain⟨o,es,ep,ho,r⟩:=hm
  exact⟨o,es,ep,k _ o (Xl hL) ho,r⟩
 ·refine(I.hok b u e).wc (fun c v hc q=>k c v ?_ q) (fun _ q=>q) fun _ _ q=>q
  rcases hc with z|z
  ·rw [z];exact QY b u e
  ·exact QY c _ z
theorem Inv.tok (I:Inv X pins σ H s) (t:Nat):Inv X pins σ H { s with toks:=t }:=I.un (h':=s.heap) (t':=t) Un.refl I.hok
theorem Inv.kept {t':Nat} (I:Inv X pins σ H s) (k:∀b u,s.heap.get? b=some u→h'.get? b=some u):Inv X pins σ H { s with heap:=h',toks:=t' }:=I.un (Un.kept k) (I.hok.kept k)
theorem Inv.laid {a:WA} {o:HO} {t':Nat} (I:Inv X pins σ H s) (k:∀b u,s.heap.get? b=some u→h'.get? b=some u) (hp:s.heap.objs.size≤a) (new:cF X.prog X.w (upd H a o) h' a o) :
  Inv X pins σ (upd H a o) { s with heap:=h',toks:=t' }:=I.un (Un.laid k hp (I.hok.fresh hp)) (I.hok.laid k hp new)
theorem Inv.write {x e:WA} {o:HO} {t':Nat} (I:Inv X pins σ H s) (mu:JN (H x)) (he:e=x∨H e=some (.own x)) (k:∀b u,b≠e→s.heap.get? b=some u→h'.get? b=some u) (Jq:∃u,h'.get? e=some u)
  (new:cF X.prog X.w (upd H x o) h' x o):Inv X pins σ (upd H x o) { s with heap:=h',toks:=t' }:=I.un (Un.write mu he k Jq) (I.hok.write mu he k Jq new)
theorem Inv.zJ {di:List (WA × Obj)} (I:Inv X pins σ H s) (h:∀p∈di,s.heap.get? p.1=some p.2∧H p.1=none∧p.1≠X.env.locals∧p.1∉X.fs∧∀v,p.2.data≠.cell v):Inv X di σ H s :=
 ⟨I.ok,I.os,I.bare,I.base,I.loc,I.cell,I.free,I.fm,fun p hp=>(WU.mp hp).elim (fun z=>I.pin p (Xx _ z)) (h p),I.hok,I.len⟩
theorem pw {N:List Str} (hN:N.Nodup) {i j:Nat} {x:Str} (a:N[i]?=some x) (b:N[j]?=some x):i=j:=by
 obtain⟨h1,e1⟩:=Wv.mp a
 obtain⟨h2,e2⟩:=Wv.mp b
 exact(List.getElem_inj hN).mp (e1.trans e2.symm)
theorem sv {M:Model} {A:Xf} {E:Wr→Ws→Prop} {i:Nat} {x:Str} {v:V} {u:Wr} {Q:Unit→Ws→Prop} (I:Inv X pins σ H s) (hN:X.N.Nodup) (hi:X.N[i]?=some x) (hx:Loc X.env.scope x) (r:RelV v u)
  (h:∀s',Inv X pins (σ.set i (some v)) H s'→(∃a,Zm a s.heap s'.heap∧(a=X.env.locals∨X.env.cells.lookup x=some a))→Q () s') (hf:X.fn x=true∨X.env.scope.names.lookup x=some .local:=by first|exact .inl rfl|exact .inr rfl|assumption):W7 M A (storeName X.env x u) Q E s:=by
 obtain⟨m,hn,hl⟩:=id I.loc
 have NH:(X.env.scope.kind == .class || (X.env.scope.kind == .module && X.env.locals != X.env.globals))=false:=by rw [I.ok.kind];rfl
 have MN:i<σ.length:=by rw [I.len];exact(Wv.mp hi).1
 have AV:=I.AV
 have tracked:∀{a:WA} {h':Heap},(∃o,s.heap.get? a=some o∧H a=none)→Zm a s.heap h'→gO X.prog X.w H h':=fun {a h'} ha hs b ob e=>by
  obtain⟨_,_,hfree⟩:=ha
  refine(I.hok b ob e).wc (fun c w' hc q=>(hs.2 c ?_).trans q) (fun _ q=>q) fun _ _ q=>q
  rintro rfl
  rcases hc with rfl|hc
  ·rw [hfree] at e;cases e
  ·rw [hfree] at hc;cases hc
 rcases hx with hk|hk
 ·refine wpAny_storeName_local hk hn (fun h' hn' hs=>?_) NH
  obtain⟨oL,_,_,SU,_⟩:=id hn
  refine h _ ⟨I.ok,I.os,I.bare,⟨fun b o e n hb hx=>?_,fun b o e n hb hx=>?_,I.base.free,fun b o e hx=>?_,I.base.fi,I.base.eV,I.base.fj⟩,⟨_,hn',fun j y v' e1 e2 e3=>?_⟩,fun y c e=>?_,I.free,I.fm,fun p hp=>?_,tracked ⟨oL,SU,I.free⟩ hs,by simpa using I.len⟩ ⟨_,hs,.inl rfl⟩
  ·exact(hs.2 b (W2 (WR (WH e) I.ok.above))).trans (I.base.keep b o e n hb hx)
  ·obtain⟨sl,e1⟩:=I.base.slot b o e n hb hx
   exact⟨sl,(hs.2 b (W2 (WR (WH e) I.ok.above))).trans e1⟩
  ·obtain⟨o',e1⟩:=I.base.there b o e hx
   exact⟨o',(hs.2 b (W2 (WR (WH e) I.ok.above))).trans e1⟩
  ·by_cases hj:j=i
   ·subst hj
    rw [hi] at e1;cases e1
    rw [Ym MN] at e2
    cases e2
    exact⟨u,r,.inl ⟨hk,by simp⟩⟩
   ·rw [Y6 (Xl hj)] at e2
    obtain⟨u',r',q⟩:=hl j y v' e1 e2 e3
    refine⟨u',r',?_⟩
    rcases q with⟨k,e⟩|⟨k,c,e,z⟩
    ·refine .inl ⟨k,?_⟩
     have:y≠x:=fun e=>hj (pw hN e1 (e ▸ hi))
     simp [this,e]
    ·exact .inr ⟨k,c,e,z.sameBut hs (AV y c e)⟩
  ·obtain⟨w',z⟩:=I.cell y c e
   exact⟨w',z.sameBut hs (AV y c e)⟩
  ·obtain⟨e,n,ne,nf,d⟩:=I.pin p hp
   exact⟨(hs.2 p.1 ne).trans e,n,ne,nf,d⟩
 ·have Ez:X.fn x=true:=by
   rcases hf with z|z
   ·exact z
   ·rw [z] at hk;cases hk
  obtain⟨c,hc⟩:=I.ok.has x (.inl hk)
  obtain⟨w',z⟩:=I.cell x c hc
  refine wpAny_storeName_cell I.ok.kind hk hc z (fun h' hc' hs=>?_)
  obtain⟨oc,QZ,NI⟩:=id z
  refine h { s with heap:=h' } ⟨I.ok,I.os,I.bare,⟨fun b o e n hb hx=>?_,fun b o e n hb hx=>?_,I.base.free,fun b o e hx=>?_,I.base.fi,I.base.eV,I.base.fj⟩,⟨m,hn.sameBut hs (Xl (AV x c hc)),fun j y v' e1 e2 e3=>?_⟩,fun y c' e=>?_,I.free,I.fm,fun p hp=>?_,tracked ⟨oc,QZ,I.fm x c hc⟩ hs,by simpa using I.len⟩ ⟨c,hs,.inr hc⟩
  ·exact(hs.2 b (W2 (WR (WH e) (I.ok.Hd x c Ez hc)))).trans (I.base.keep b o e n hb hx)
  ·obtain⟨sl,e1⟩:=I.base.slot b o e n hb hx
   exact⟨sl,(hs.2 b (W2 (WR (WH e) (I.ok.Hd x c Ez hc)))).trans e1⟩
  ·obtain⟨o',e1⟩:=I.base.there b o e hx
   exact⟨o',(hs.2 b (W2 (WR (WH e) (I.ok.Hd x c Ez hc)))).trans e1⟩
  ·by_cases hj:j=i
   ·subst hj
    rw [hi] at e1;cases e1
    rw [Ym MN] at e2
    cases e2
    exact⟨u,r,.inr ⟨.inl hk,c,hc,hc'⟩⟩
   ·rw [Y6 (Xl hj)] at e2
    obtain⟨u',r',q⟩:=hl j y v' e1 e2 e3
    refine⟨u',r',?_⟩
    rcases q with q|⟨k,c',e,z'⟩
    ·exact .inl q
    ·refine .inr ⟨k,c',e,z'.sameBut hs ?_⟩
     rintro rfl
     exact hj (pw hN e1 (I.ok.inj _ _ _ e hc ▸ hi))
  ·by_cases Q0:c'=c
   ·subst Q0;exact⟨_,hc'⟩
   ·obtain⟨w2,z2⟩:=I.cell y c' e
    exact⟨w2,z2.sameBut hs Q0⟩
  ·obtain⟨e,n,ne,nf,d⟩:=I.pin p hp
   refine⟨(hs.2 p.1 ?_).trans e,n,ne,nf,d⟩
   intro q
   rw [q,QZ] at e
   have q':oc=p.2:=Xe e
   exact d w' (by rw [← q'];exact NI)
theorem iS {M:Model} {A:Xf} {E:Wr→Ws→Prop} {i:Nat} {x:Str} {v:V} {u:Wr} {Q:Unit→Ws→Prop} (I:Inv X pins σ H s) (hN:X.N.Nodup) (hi:X.N[i]?=some x) (hx:Loc X.env.scope x) (r:RelV v u)
  (h:∀s',Inv X pins (σ.set i (some v)) H s'→Q () s') (hf:X.fn x=true∨X.env.scope.names.lookup x=some .local:=by first|exact .inl rfl|exact .inr rfl|assumption):W7 M A (storeName X.env x u) Q E s :=
 sv I hN hi hx r (fun s' I' _=>h s' I') hf
theorem Inv.Cn {s':Ws} {ch:List WA} (I:Inv X pins σ H s) (ho:s'.os=s.os) (u:Un (cR X.stack) ch H H' s.heap s'.heap) (hok:gO X.prog X.w H' s'.heap) (hg:AllBare s'.gens)
  (Er:∀b∈ch,(b∈X.ex∨X.s₀.heap.objs.size≤b)∧b≠X.env.locals∧(∀x c,X.env.cells.lookup x=some c→c≠b)∧∀p∈X.pn++pins,p.1≠b):Inv X pins σ H' s':=by
 obtain⟨h',g',d',t',o'⟩:=s'
 have e:o'=s.os:=ho
 subst e
 exact I.call (g':=g') (t':=t') (d':=d') u hok hg Er
end
abbrev XK:=Wr→Option WA→Hp→Prop
abbrev St:=List (Option V)
abbrev VK:=V→Hp→Prop
abbrev TE:=St→Hp→VK→Prop
abbrev TT:=St→Hp→(Bool→Hp→Prop)→Prop
abbrev TA:=St→Hp→(List V→Hp→Prop)→Prop
structure Ends where
 nx:St→Hp→Prop
 rt:VK
 bk:St→Hp→Prop:=fun _ _=>False
 ct:St→Hp→Prop:=fun _ _=>False
abbrev TS:=Ends→St→Hp→Prop
def EP (X:Cx) (pins:List (WA × Obj)) (σ:St) (Q:VK) (u:Wr) (s':Ws):Prop:=∃v H',Inv X pins σ H' s'∧RelV v u∧Q v H'
def TP (X:Cx) (pins:List (WA × Obj)) (σ:St) (Q:Bool→Hp→Prop) (b:Bool) (s':Ws):Prop:=∃H',Inv X pins σ H' s'∧Q b H'
def AP (X:Cx) (pins:List (WA × Obj)) (σ:St) (Q:List V→Hp→Prop) (us:List Wr) (s':Ws):Prop:=∃vs H',Inv X pins σ H' s'∧Vals vs us∧Q vs H'
def SP (X:Cx) (pins:List (WA × Obj)) (D:Ends) (f:Flow) (s':Ws):Prop :=
 match f with
 | .next=>∃σ' H',Inv X pins σ' H' s'∧D.nx σ' H'
 | .brk=>∃σ' H',Inv X pins σ' H' s'∧D.bk σ' H'
 | .cont=>∃σ' H',Inv X pins σ' H' s'∧D.ct σ' H'
 | .ret u=>∃v σ' H',Inv X pins σ' H' s'∧RelV v u∧D.rt v H'
def PE (X:Cx) (e:Expr) (t:TE):Prop :=
 ∀(pins:List (WA × Obj)) (s:Ws) (σ:St) (H:Hp) (Q:VK),Inv X pins σ H s→t σ H Q→W7 (model X.prog X.w) X.A (eval e X.env) (EP X pins σ Q) X.xe s
def PT (X:Cx) (e:Expr) (t:TT):Prop :=
 ∀(pins:List (WA × Obj)) (s:Ws) (σ:St) (H:Hp) (Q:Bool→Hp→Prop),Inv X pins σ H s→t σ H Q→W7 (model X.prog X.w) X.A (isTrue e X.env (eval e X.env)) (TP X pins σ Q) X.xe s
def PW (X:Cx) (e:Expr) (t:TT):Prop :=
 ∀(whole:Sem Wr) (pins:List (WA × Obj)) (s:Ws) (σ:St) (H:Hp) (Q:Bool→Hp→Prop),Inv X pins σ H s→t σ H Q→W7 (model X.prog X.w) X.A (isTrue e X.env whole) (TP X pins σ Q) X.xe s
theorem PW.pt {X:Cx} {e:Expr} {t:TT} (h:PW X e t):PT X e t:=h _
def PA (X:Cx) (es:List Expr) (t:TA):Prop :=
 ∀(pos:Pos) (pins:List (WA × Obj)) (s:Ws) (σ:St) (H:Hp) (Q:List V→Hp→Prop),Inv X pins σ H s→t σ H Q→W7 (model X.prog X.w) X.A (spliced (backTo pos (starEach es X.env))) (AP X pins σ Q) X.xe s
def PS (X:Cx) (st:Stmt) (t:TS):Prop :=
 ∀(pins:List (WA × Obj)) (s:Ws) (σ:St) (H:Hp) (D:Ends),Inv X pins σ H s→t D σ H→W7 (model X.prog X.w) X.A (exec st X.env) (SP X pins D) X.xe s
def we (X:Cx) (st:List Stmt) (t:TS):Prop :=
 ∀(pins:List (WA × Obj)) (s:Ws) (σ:St) (H:Hp) (D:Ends),Inv X pins σ H s→t D σ H→W7 (model X.prog X.w) X.A (execs st X.env) (SP X pins D) X.xe s
theorem thn {α:Type} {t:Sem α} {Q Q':α→Ws→Prop} {M:Model} {A:Xf} {E:Wr→Ws→Prop} {s:Ws} (h:W7 M A t Q E s) (hQ:∀a s,Q a s→Q' a s):W7 M A t Q' E s:=wpAny_mono h hQ fun _ _ x=>x
end L2
namespace L2
open PySem PySem.Spec PyProof.Rows
section
variable {X:Cx}
theorem bin {a b:Expr} {ta tb:TE} (ha:PE X a ta) (hb:PE X b tb) {pins:List (WA × Obj)} {s:Ws} {σ:St} {H:Hp} {R:V→V→Hp→Prop} (I:Inv X pins σ H s) (h:ta σ H fun x H1=>tb σ H1 fun y H2=>R x y H2)
  {α:Type} {Q:α→Ws→Prop} {f:Wr→Wr→Sem α}
  (hf:∀v u s2 x y H2,Inv X pins σ H2 s2→RelV x v→RelV y u→R x y H2→W7 (model X.prog X.w) X.A (f v u) Q X.xe s2) :
  W7 (model X.prog X.w) X.A (eval a X.env) (fun v s₁=>W7 (model X.prog X.w) X.A (eval b X.env) (fun u s₂=>W7 (model X.prog X.w) X.A (f v u) Q X.xe s₂) X.xe s₁) X.xe s:=by
 refine thn (ha pins s σ H _ I h) fun v s1 ⟨x,H1,I1,r1,q1⟩=>?_
 refine thn (hb pins s1 σ H1 _ I1 q1) fun u s2 ⟨y,H2,I2,r2,q2⟩=>?_
 exact hf v u s2 x y H2 I2 r1 r2 q2
def JR (i:Nat):TE:=fun σ H Q=>∃v,σ[i]?=some (some v)∧Q v H
def tC (v:V):TE:=fun _ H Q=>Q v H
theorem Hf {i:Nat} {x:Str} {pos:Pos} (hN:X.N[i]?=some x) (hv:MM X.env.scope x) (hd:(x == ("__debug__":Str))=false:=by decide) (hcd:(x == ("__classdict__":Str))=false:=by decide):PE X (.Name x pos) (JR i):=by
 intro pins s σ H Q I h
 obtain⟨v,e,h⟩:=h
 obtain⟨m,hn,hl⟩:=I.loc
 obtain⟨u,r,l⟩:=hl i x v hN e hv
 have fin:EP X pins σ Q u s:=⟨v,H,I,r,h⟩
 rcases l with⟨hk,hm⟩|⟨hk,c,hc,hcell⟩
 ·exact wpAny_Name (wpAny_loadName_local I.ok.kind hk hn hm fin) hd
 ·rcases hk with hk|hk
  ·exact wpAny_Name (wpAny_loadName_cell I.ok.kind hk hc hcell fin) hd
  ·exact wpAny_Name (wpAny_loadName_free I.ok.kind hk hc hcell fin hcd) hd
theorem ak {i j pos}:PE X (.Constant (.int i) j pos) (tC (.int i)):=fun _ _ _ H _ I h=>wpAny_Constant_int ⟨.int i,H,I.tok _,⟨_,rfl⟩,h⟩
theorem sx {b j pos}:PE X (.Constant (.bool b) j pos) (tC (.bl b)):=fun _ _ _ H _ I h=>Constant_bool ⟨.bl b,H,I,rfl,h⟩
theorem Hg {j pos}:PE X (.Constant .none j pos) (tC .bG):=fun _ _ _ H _ I h=>Constant_none ⟨.bG,H,I,rfl,h⟩
theorem aq {x j pos}:PE X (.Constant (.str x) j pos) (tC (.str x)):=fun _ _ _ H _ I h=>Zn ⟨.str x,H,I.tok _,⟨_,rfl⟩,h⟩
def Gl (X:Cx) (x:Str):Prop:=X.env.kindOf x=some .globalImplicit
theorem jK {E:Wr→Ws→Prop} {pins:List (WA × Obj)} {s:Ws} {σ:St} {H:Hp} {x:Str} {u:Wr} {pos:Pos} {Q:Wr→Ws→Prop} (I:Inv X pins σ H s) (hg:Gl X x) (hm:X.mg x=some u) (h:Q u s)
  (hd:(x == ("__debug__":Str))=false:=by decide):W7 (model X.prog X.w) X.A (eval (.Name x pos) X.env) Q E s :=
 Zf I.ok.kind hg (Calls.loadGlobal_global (by rw [I.ok.glob];exact I.mod.glob.keeps I.bk) hm h) hd
theorem tV {E:Wr→Ws→Prop} {pins:List (WA × Obj)} {s:Ws} {σ:St} {H:Hp} {x:Str} {u:Wr} {pos:Pos} {Q:Wr→Ws→Prop} (I:Inv X pins σ H s) (hg:Gl X x) (hm:X.mg x=none) (hv:bootBuiltins x=some u) (h:Q u s)
  (hn:x≠"__name__":=by decide) (hd:(x == ("__debug__":Str))=false:=by decide):W7 (model X.prog X.w) X.A (eval (.Name x pos) X.env) Q E s:=by
 obtain⟨mb,h1,h2⟩:=I.mod.blt
 exact Zf I.ok.kind hg (Calls.loadGlobal_builtin (by rw [I.ok.glob];exact I.mod.glob.keeps I.bk) hm (by rw [I.ok.blt];exact h1.keeps I.bk) ((h2 x hn).trans hv) h) hd
theorem bO {x:Str} {v:V} {u:Wr} {pos:Pos} (hg:Gl X x) (hm:X.mg x=some u) (r:RelV v u) (hd:(x == ("__debug__":Str))=false:=by decide):PE X (.Name x pos) (tC v) :=
 fun _ _ _ H _ I h=>jK I hg hm ⟨v,H,I,r,h⟩ hd
theorem EA {x:Str} {v:V} {u:Wr} {pos:Pos} (hg:Gl X x) (hm:X.mg x=none) (hv:bootBuiltins x=some u) (r:RelV v u) (hn:x≠"__name__":=by decide) (hd:(x == ("__debug__":Str))=false:=by decide):PE X (.Name x pos) (tC v) :=
 fun _ _ _ H _ I h=>tV I hg hm hv ⟨v,H,I,r,h⟩ hn hd
variable {a b:Expr} {ta tb:TE} {pos:Pos}
def PC (X:Cx) (op:CmpOp) (a b:Expr) (t:TE):Prop :=
 ∀(pins:List (WA × Obj)) (s:Ws) (σ:St) (H:Hp) (Q:VK),Inv X pins σ H s→t σ H Q →
  W7 (model X.prog X.w) X.A (eval a X.env) (fun v s₁=>W7 (model X.prog X.w) X.A (eval b X.env) (fun u s₂=>W7 (model X.prog X.w) X.A (compareOp op v u) (EP X pins σ Q) X.xe s₂) X.xe s₁) X.xe s
theorem Co (b:Expr) {op:CmpOp} (h:op≠.In) (h2:op≠.NotIn):behindInMarks op b=false:=by
 have e1:(op == CmpOp.In)=false:=by cases op <;> first|rfl|exact absurd rfl h
 have e2:(op == CmpOp.NotIn)=false:=by cases op <;> first|rfl|exact absurd rfl h2
 cases b <;> simp [behindInMarks,e1,e2]
def tB (t:TE):TT:=fun σ H Q=>t σ H fun x H1=>∃c,x=.bl c∧Q c H1
theorem yi {op:CmpOp} {t:TE} (h:PC X op a b t) (h1:behindInMarks op b=false:=by first|exact Co _ (by decide) (by decide)|rfl):PT X (.Compare a [op] [b] pos) (tB t):=by
 intro pins s σ H Q I hw
 refine wpAny_isTrue_Compare1 (thn (h pins s σ H _ I hw) fun v s1 h1=>thn h1 fun u s2 h2=>thn h2 fun c s3 ⟨x,H1,I1,r1,q1⟩=>?_) h1
 obtain⟨d,rfl,q⟩:=q1
 cases r1
 exact wpAny_truthy_bool ⟨H1,I1,q⟩
theorem dj {e:Expr} {t:TE} (h:PE X e t) (he:∀whole,isTrue e X.env whole=(do let v ← whole;standAt e.pos;holding [v] (truthy v)):=by intro _;rfl):PT X e (tB t):=by
 intro pins s σ H Q I hw
 refine isTrue_plain (thn (h pins s σ H _ I hw) fun v s1 ⟨x,H1,I1,r1,q1⟩=>?_) (he _)
 obtain⟨d,rfl,q⟩:=q1
 cases r1
 exact wpAny_truthy_bool ⟨H1,I1,q⟩
variable {tA MO:TT} {rest:List Expr}
def NJ (t u:TT):TT:=fun σ H Q=>t σ H fun c H1=>if c=true then u σ H1 Q else Q false H1
def SV (t u:TT):TT:=fun σ H Q=>t σ H fun c H1=>if c=true then Q true H1 else u σ H1 Q
def NK (t:TT):TT:=fun σ H Q=>t σ H fun c H1=>Q (!c) H1
theorem gQ (ha:PT X a tA):PW X (.BoolOp .And [a] pos) tA:=by
 intro wh pins s σ H Q I h
 refine isTrue_and (thn (ha pins s σ H Q I h) fun c s1 e=>?_)
 cases c with
 | true=>exact isTrue_and_nil e
 | false=>exact e
theorem yj (ha:PT X a tA):PW X (.BoolOp .Or [a] pos) tA:=by
 intro wh pins s σ H Q I h
 refine isTrue_or (thn (ha pins s σ H Q I h) fun c s1 e=>?_)
 cases c with
 | false=>exact isTrue_or_nil e
 | true=>exact e
theorem gR (ha:PT X a tA) (hb:PW X (.BoolOp .And (b::rest) pos) MO):PW X (.BoolOp .And (a::b::rest) pos) (NJ tA MO):=by
 intro wh pins s σ H Q I h
 refine isTrue_and (thn (ha pins s σ H _ I h) fun c s1 ⟨H1,I1,q1⟩=>?_)
 cases c with
 | true=>exact hb wh pins s1 σ H1 Q I1 q1
 | false=>exact⟨H1,I1,q1⟩
theorem wg (ha:PT X a tA) (hb:PW X (.BoolOp .Or (b::rest) pos) MO):PW X (.BoolOp .Or (a::b::rest) pos) (SV tA MO):=by
 intro wh pins s σ H Q I h
 refine isTrue_or (thn (ha pins s σ H _ I h) fun c s1 ⟨H1,I1,q1⟩=>?_)
 cases c with
 | true=>exact⟨H1,I1,q1⟩
 | false=>exact hb wh pins s1 σ H1 Q I1 q1
theorem ki (ha:PT X a tA):PT X (.UnaryOp .Not a pos) (NK tA):=by
 intro pins s σ H Q I h
 exact isTrue_not (ha pins s σ H (fun c H1=>Q (!c) H1) I h)
def JS (ta tb:TE):TE:=fun σ H Q=>ta σ H fun x H1=>∃c,x=.bl c∧if c=true then tb σ H1 Q else Q (.bl false) H1
def NL (ta tb:TE):TE:=fun σ H Q=>ta σ H fun x H1=>∃c,x=.bl c∧if c=true then Q (.bl true) H1 else tb σ H1 Q
theorem my {op} {t:TE} (h:PE X a t):PE X (.BoolOp op [a] pos) t:=fun pins s σ H Q I hw=>BoolOp_one (h pins s σ H Q I hw)
theorem tW (ha:PE X a ta) (hb:PE X (.BoolOp .And (b::rest) pos) tb):PE X (.BoolOp .And (a::b::rest) pos) (JS ta tb):=by
 intro pins s σ H Q I h
 refine BoolOp_and (thn (ha pins s σ H _ I h) fun v s1 ⟨x,H1,I1,r1,q1⟩=>?_)
 obtain⟨c,rfl,q1⟩:=q1
 cases r1
 refine wpAny_truthy_bool ?_
 cases c with
 | true=>exact hb pins s1 σ H1 Q I1 q1
 | false=>exact⟨.bl false,H1,I1,rfl,q1⟩
theorem zK (ha:PE X a ta) (hb:PE X (.BoolOp .Or (b::rest) pos) tb):PE X (.BoolOp .Or (a::b::rest) pos) (NL ta tb):=by
 intro pins s σ H Q I h
 refine BoolOp_or (thn (ha pins s σ H _ I h) fun v s1 ⟨x,H1,I1,r1,q1⟩=>?_)
 obtain⟨c,rfl,q1⟩:=q1
 cases r1
 refine wpAny_truthy_bool ?_
 cases c with
 | false=>exact hb pins s1 σ H1 Q I1 q1
 | true=>exact⟨.bl true,H1,I1,rfl,q1⟩
end
end L2
namespace L2
open PySem PySem.Spec PyProof.Rows
def aI (K:Wo) (H:Hp) (a:WA) (xs:List V):Prop :=
 Rd H a (.lst xs) ∨
  ∃(o:Obj) (its:Array Wr) (n:Nat),K.lookup a=some o∧o.cls=.type "list"∧o.dict=none∧o.data=.seq its n∧its.size≤Wt∧xs.all V.pl=true∧Vals xs its.toList
def da (K:Wo) (H:Hp) (a:WA) (xs:List V):Prop :=
 Rd H a (.tup xs) ∨
  ∃(o:Obj) (its:Array Wr) (n:Nat),K.lookup a=some o∧o.cls=.type "tuple"∧o.data=.seq its n∧its.size≤Wt∧xs.all V.pl=true∧Vals xs its.toList
def NM:Wr→Option V
 | .none=>some .bG
 | .bool b=>some (.bl b)
 | .int i _=>some (.int i)
 | .str x _=>some (.str x)
 | .bytes b _=>some (.Cd b)
 | .float b _=>some (.MJ b)
 | .ref a=>some (.ref a)
 | .type n=>some (.ty n)
 | _=>none
theorem RelV.abs {x:V} {u:Wr} (r:RelV x u) (hp:x.pl=true):NM u=some x:=by
 cases x with
 | tok _ _=>cases hp
 | bG=>cases r;rfl
 | bl _=>cases r;rfl
 | int _=>obtain⟨t,rfl⟩:=r;rfl
 | str _=>obtain⟨t,rfl⟩:=r;rfl
 | Cd _=>obtain⟨t,rfl⟩:=r;rfl
 | MJ _=>obtain⟨t,rfl⟩:=r;rfl
 | ref _=>cases r;rfl
 | ty _=>cases r;rfl
theorem RelV.inj {x y:V} {u:Wr} (r:RelV x u) (q:RelV y u) (hx:x.pl=true) (hy:y.pl=true):x=y:=Xe ((r.abs hx).symm.trans (q.abs hy))
theorem Vals.inj:∀{xs ys:List V} {us:List Wr},Vals xs us→Vals ys us→xs.all V.pl=true→ys.all V.pl=true→xs=ys
 | _,_,_,.nil,.nil,_,_=>rfl
 | _,_,_,.cons r t,.cons r' t',h,h'=>by
  rw [XJ,WG] at h h'
  rw [r.inj r' h.1 h'.1,Vals.inj t t' h.2 h'.2]
section
variable {X:Cx} {pins:List (WA × Obj)} {σ:St} {H:Hp} {s:Ws} {a:WA} {xs ys:List V}
theorem aI.of {K:Wo} (h:H a=some (.lst xs)):aI K H a xs:=.inl (.inl h)
theorem da.of {K:Wo} (h:H a=some (.tup xs)):da K H a xs:=.inl (.inl h)
theorem Inv.list (I:Inv X pins σ H s) (h:aI X.K H a xs):∃its:List Wr,Vals xs its∧PlainL s.heap a its.toArray∧xs.length≤Wt:=by
 rcases h with h|⟨o,its,n,hk,hc,hd,hs,hz,_,r⟩
 ·obtain⟨z,its,n,r,e⟩:=h.ok I.hok
  exact⟨its,r,⟨_,n,e,rfl,rfl,rfl⟩,z⟩
 ·refine⟨its.toList,r,⟨o,n,I.vY a o hk,hc,hd,by simpa using hs⟩,?_⟩
  have e:=r.length
  simp only [YB] at e
  omega
theorem Inv.tuple (I:Inv X pins σ H s) (h:da X.K H a xs):∃its:List Wr,Vals xs its∧IsTup s.heap a its.toArray∧xs.length≤Wt:=by
 rcases h with h|⟨o,its,n,hk,hc,hs,hz,_,r⟩
 ·obtain⟨z,its,r,p⟩:=h.ok I.hok
  exact⟨its,r,p,z⟩
 ·refine⟨its.toList,r,⟨o,I.vY a o hk,hc,n,by simpa using hs⟩,?_⟩
  have e:=r.length
  simp only [YB] at e
  omega
theorem Rd.none {u:HO} (h:Rd H a u) (z:H a=ZF):False:=by
 rcases h with h|⟨o,h⟩
 ·rw [z] at h;cases h
 ·rw [z] at h;cases h
theorem Inv.kH (I:Inv X pins σ H s) {o:Obj} (h:X.K.lookup a=some o):H a=ZF:=(I.bs a o (I.ok.mod.Gk a o h)).2
theorem Inv.Cp (I:Inv X pins σ H s) (h:aI X.K H a xs) (h':aI X.K H a ys):xs=ys:=by
 rcases h with h|⟨o,its,n,hk,hc,hd,hs,hz,hp,r⟩ <;> rcases h' with h'|⟨o',its',n',hk',hc',hd',hs',hz',hp',r'⟩
 ·rcases h with h|⟨o,h⟩ <;> rcases h' with h'|⟨o',h'⟩ <;> rw [h] at h' <;> cases h' <;> rfl
 ·exact(h.none (I.kH hk')).elim
 ·exact(h'.none (I.kH hk)).elim
 ·rw [hk] at hk';cases hk'
  rw [hs] at hs'
  injection hs' with d1 _
  subst d1
  exact r.inj r' hp hp'
theorem Inv.mz (I:Inv X pins σ H s) (h:da X.K H a xs) (h':da X.K H a ys):xs=ys:=by
 rcases h with h|⟨o,its,n,hk,hc,hs,hz,hp,r⟩ <;> rcases h' with h'|⟨o',its',n',hk',hc',hs',hz',hp',r'⟩
 ·rcases h with h|⟨o,h⟩ <;> rcases h' with h'|⟨o',h'⟩ <;> rw [h] at h' <;> cases h' <;> rfl
 ·exact(h.none (I.kH hk')).elim
 ·exact(h'.none (I.kH hk)).elim
 ·rw [hk] at hk';cases hk'
  rw [hs] at hs'
  injection hs' with d1 _
  subst d1
  exact r.inj r' hp hp'
end
abbrev Cx.q0 (X:Cx) (E:Wr→Ws→Prop):Cx:={ X with xe:=E }
abbrev Cx.MP (X:Cx):Cx:=X.q0 fun _ _=>False
theorem Cx.Ok.q0 {X:Cx} (ok:X.Ok) (E:Wr→Ws→Prop):(X.q0 E).Ok :=
 ⟨ok.mod,ok.kind,ok.glob,ok.blt,ok.above,ok.inj,ok.has,ok.Hd,ok.hd,ok.frames,ok.Jr,ok.NA,ok.bs,ok.Ep,ok.AU,ok.Cm,ok.ly,ok.Gm⟩
theorem Cx.Ok.iT {X:Cx} {E:Wr→Ws→Prop} (ok:(X.q0 E).Ok):X.Ok :=
 ⟨ok.mod,ok.kind,ok.glob,ok.blt,ok.above,ok.inj,ok.has,ok.Hd,ok.hd,ok.frames,ok.Jr,ok.NA,ok.bs,ok.Ep,ok.AU,ok.Cm,ok.ly,ok.Gm⟩
section
variable {X:Cx} {pins:List (WA × Obj)} {σ:St} {H:Hp} {s:Ws} {E:Wr→Ws→Prop}
theorem Inv.q0 (I:Inv X pins σ H s) (E:Wr→Ws→Prop):Inv (X.q0 E) pins σ H s:=⟨I.ok.q0 E,I.os,I.bare,I.base,I.loc,I.cell,I.free,I.fm,I.pin,I.hok,I.len⟩
theorem Inv.iT (I:Inv (X.q0 E) pins σ H s):Inv X pins σ H s:=⟨I.ok.iT,I.os,I.bare,I.base,I.loc,I.cell,I.free,I.fm,I.pin,I.hok,I.len⟩
theorem SP.iT {D:Ends} {f:Flow} {s':Ws} (h:SP (X.q0 E) pins D f s'):SP X pins D f s':=by
 cases f with
 | next=>obtain⟨σ',H',I,q⟩:=h;exact⟨σ',H',I.iT,q⟩
 | brk=>obtain⟨σ',H',I,q⟩:=h;exact⟨σ',H',I.iT,q⟩
 | cont=>obtain⟨σ',H',I,q⟩:=h;exact⟨σ',H',I.iT,q⟩
 | ret u=>obtain⟨v,σ',H',I,r,q⟩:=h;exact⟨v,σ',H',I.iT,r,q⟩
theorem we.MP {st:List Stmt} {t:TS} (h:we X.MP st t):we X st t:=fun pins s σ H D I hw =>
 wpAny_mono (h pins s σ H D (I.q0 _) hw) (fun _ _ q=>q.iT) fun _ _ z=>XG z
end
section
variable {X:Cx} {st:Stmt} {rest:List Stmt} {t u:TS} {e:Expr} {te:TE} {pos:Pos}
def JT:TS:=fun D σ H=>D.nx σ H
def JU (t u:TS):TS:=fun D σ H=>t { D with nx:=u D } σ H
theorem aE:we X [] JT:=fun _ _ σ H _ I h=>wpAny_execs_nil ⟨σ,H,I,h⟩
theorem af (h1:PS X st t) (h2:we X rest u):we X (st::rest) (JU t u):=by
 intro pins s σ H D I h
 refine wpAny_execs_cons (thn (h1 pins s σ H { D with nx:=u D } I h) fun f s1 q=>?_)
 cases f with
 | next =>
  obtain⟨σ',H',I',q⟩:=q
  exact h2 pins s1 σ' H' D I' q
 | ret v=>exact q
 | brk=>exact q
 | cont=>exact q
theorem ao (h1:PS X st t):we X [st] t:=by
 intro pins s σ H D I h
 refine wpAny_execs_cons (thn (h1 pins s σ H D I h) fun f s1 q=>?_)
 cases f with
 | next=>exact wpAny_execs_nil q
 | ret v=>exact q
 | brk=>exact q
 | cont=>exact q
def JV:TS:=fun D σ H=>D.ct σ H
theorem wj:PS X (.Continue pos) JV:=fun _ _ σ H _ I h=>wpAny_Continue ⟨σ,H,I,h⟩
theorem Inv.quiet {pins:List (WA × Obj)} {σ:St} {H:Hp} {s:Ws} (I:Inv X pins σ H s):interactive X.env=false:=by simp [interactive,I.ok.kind]
def JW (te:TE):TS:=fun D σ H=>te σ H fun _ H1=>D.nx σ H1
theorem bu (he:PE X e te) (hs:swapsWith e none pos.line X.env=pure false:=by rfl):PS X (.Expr e pos) (JW te):=by
 intro pins s σ H D I h
 exact wpAny_Expr_any (thn (he pins s σ H _ I h) fun v s1 ⟨x,H1,I1,r1,q1⟩=>⟨σ,H1,I1,q1⟩) I.quiet hs
def NO (te:TE):TS:=fun D σ H=>te σ H D.rt
theorem aF (he:PE X e te):PS X (.Return (some e) pos) (NO te):=by
 intro pins s σ H D I h
 exact wpAny_Return_some (thn (he pins s σ H _ I h) fun v s1 ⟨x,H1,I1,r1,q1⟩=>⟨x,σ,H1,I1,r1,q1⟩)
def JX:TS:=fun D _ H=>D.rt .bG H
theorem EB:PS X (.Return none pos) JX:=fun _ _ σ H _ I h=>wpAny_Return_none ⟨.bG,σ,H,I,rfl,h⟩
def NP (c:TT) (t u:TS):TS:=fun D σ H=>c σ H fun b H1=>if b=true then t D σ H1 else u D σ H1
theorem aX {c:Expr} {a b:List Stmt} {tc:TT} (hc:PT X c tc) (ha:we X a t) (hb:we X b u):PS X (.If c a b pos) (NP tc t u):=by
 intro pins s σ H D I h
 refine wpAny_If (thn (hc pins s σ H _ I h) fun d s1 ⟨H1,I1,q1⟩=>?_)
 cases d with
 | true=>exact ha pins s1 σ H1 D I1 q1
 | false=>exact hb pins s1 σ H1 D I1 q1
def Hh:TS:=fun _ _ _=>False
theorem gu {SW:List Stmt}:we X SW Hh:=fun _ _ _ _ _ _ h=>h.elim
end
abbrev TG:=V→St→Hp→(St→Hp→Prop)→Prop
def PG (X:Cx) (target:Expr) (t:TG):Prop :=
 ∀(pins:List (WA × Obj)) (s:Ws) (σ:St) (H:Hp) (v:V) (u:Wr) (Q:St→Hp→Prop),Inv X pins σ H s→RelV v u→t v σ H Q →
  W7 (model X.prog X.w) X.A (assign target X.env u) (fun _ s'=>∃σ' H',Inv X pins σ' H' s'∧Q σ' H') X.xe s
abbrev MQ:=V→V→Hp→VK→Prop
def Q1 (X:Cx) (op:Operator) (t:MQ):Prop :=
 ∀(pins:List (WA × Obj)) (s:Ws) (σ:St) (H:Hp) (x y:V) (v u:Wr) (Q:VK),Inv X pins σ H s→RelV x v→RelV y u→t x y H Q →
  W7 (model X.prog X.w) X.A (inplaceOp op v u) (EP X pins σ Q) X.xe s
section
variable {X:Cx} {pos:Pos}
def sy (i:Nat):TG:=fun v σ H Q=>Q (σ.set i (some v)) H
theorem b8 {i:Nat} {x:Str} (hN:X.N.Nodup) (hi:X.N[i]?=some x) (hx:Loc X.env.scope x) (hf:X.fn x=true∨X.env.scope.names.lookup x=some .local:=by first|exact .inl rfl|exact .inr rfl|assumption):PG X (.Name x pos) (sy i):=by
 intro pins s σ H v u Q I r h
 exact wpAny_assign_Name (iS I hN hi hx r (fun s' I'=>⟨_,H,I',h⟩) hf)
def JY (te:TE) (g:TG):TS:=fun D σ H=>te σ H fun x H1=>g x σ H1 D.nx
theorem ay {i:Nat} {x:Str} {e:Expr} {te:TE} {pos':Pos} (hN:X.N.Nodup) (hi:X.N[i]?=some x) (hx:Loc X.env.scope x) (he:PE X e te) (hs:swapsWith e (some (.Name x pos')) pos.line X.env=pure false:=by rfl) (hf:X.fn x=true∨X.env.scope.names.lookup x=some .local:=by first|exact .inl rfl|exact .inr rfl|assumption) :
  PS X (.Assign [.Name x pos'] e pos) (JY te (sy i)):=by
 intro pins s σ H D I h
 refine wpAny_Assign_Name (thn (he pins s σ H _ I h) fun v s1 ⟨y,H1,I1,r1,q1⟩=>?_) hs
 exact iS I1 hN hi hx r1 (fun s2 I2=>⟨_,H1,I2,q1⟩) hf
def NQ (i:Nat) (te:TE) (ti:MQ):TS:=fun D σ H=>∃x,σ[i]?=some (some x)∧te σ H fun y H1=>ti x y H1 fun z H2=>D.nx (σ.set i (some z)) H2
theorem tX {i:Nat} {x:Str} {e:Expr} {te:TE} {op:Operator} {ti:MQ} {pos':Pos} (hN:X.N.Nodup) (hi:X.N[i]?=some x) (hx:Loc X.env.scope x) (he:PE X e te) (ho:Q1 X op ti) (hf:X.fn x=true∨X.env.scope.names.lookup x=some .local:=by first|exact .inl rfl|exact .inr rfl|assumption) :
  PS X (.AugAssign (.Name x pos') op e pos) (NQ i te ti):=by
 intro pins s σ H D I h
 obtain⟨v,e1,h⟩:=h
 obtain⟨m,hn,hl⟩:=I.loc
 have SX:MM X.env.scope x:=by rcases hx with k|k;exact .inl k;exact .inr (.inl k)
 obtain⟨u,r,l⟩:=hl i x v hi e1 SX
 refine wpAny_AugAssign_Name ?_
 have go:W7 (model X.prog X.w) X.A (eval e X.env) (fun w s₂=>W7 (model X.prog X.w) X.A (inplaceOp op u w) (fun r s₃=>W7 (model X.prog X.w) X.A (storeName X.env x r) (fun _=>SP X pins D .next) X.xe s₃) X.xe s₂) X.xe s:=by
  refine thn (he pins s σ H _ I h) fun w s1 ⟨y,H1,I1,r1,q1⟩=>?_
  refine thn (ho pins s1 σ H1 v y u w _ I1 r r1 q1) fun z s2 ⟨zv,H2,I2,r2,q2⟩=>?_
  exact iS I2 hN hi hx r2 (fun s3 I3=>⟨_,H2,I3,q2⟩) hf
 rcases l with⟨hk,hm⟩|⟨hk,c,hc,hcell⟩
 ·exact wpAny_loadName_local I.ok.kind hk hn hm go
 ·rcases hk with hk|hk
  ·exact wpAny_loadName_cell I.ok.kind hk hc hcell go
  ·rcases hx with k|k
   ·have:X.env.scope.names.lookup x=some .free:=hk
    rw [k] at this;cases this
   ·have:X.env.scope.names.lookup x=some .free:=hk
    rw [k] at this;cases this
def SY (f:Int→Int→Int):MQ:=fun x y H Q=>∃i j,x=.int i∧y=.int j∧Q (.int (f i j)) H
theorem tY:Q1 X .Add (SY fun i j=>i+j):=by
 intro pins s σ H x y v u Q I r1 r2 h
 obtain⟨i,j,e1,e2,q⟩:=h
 subst e1;subst e2
 obtain⟨t,rfl⟩:=r1
 obtain⟨t',rfl⟩:=r2
 exact iadd_int ⟨.int _,H,I.tok _,⟨_,rfl⟩,q⟩
end
section
variable {X:Cx} {pos:Pos}
def Hi (c:TT) (tb:TS):TS:=fun D σ H=>∃W:Nat→St→Hp→Prop,(∃m,W m σ H)∧∀m σ H,W m σ H →
 c σ H fun b H1=>if b=true then ∃N:St→Hp→Prop,(∀σ' H',N σ' H'→∃m',m'<m∧W m' σ' H')∧tb { D with nx:=N,ct:=N,bk:=D.nx } σ H1 else D.nx σ H1
theorem lA {c:Expr} {body:List Stmt} {tc:TT} {tb:TS} (hp:PassesOwn (model X.prog X.w) X.A X.env X.xe) (hc:PT X c tc) (hb:we X body tb):PS X (.While c body [] pos) (Hi tc tb):=by
 intro pins s σ H D I h
 obtain⟨W,⟨m0,w0⟩,turn⟩:=h
 refine wpAny_While (codeAny_whileLoop (fun n s'=>∃σ' H',Inv X pins σ' H' s'∧W n σ' H') ?_ m0 ⟨σ,H,I,w0⟩)
 rintro n s1 ⟨σ1,H1,I1,w1⟩
 refine wpAny_passesOwn hp (thn (hc pins s1 σ1 H1 _ I1 (turn n σ1 H1 w1)) fun b s2 ⟨H2,I2,q2⟩=>?_)
 cases b with
 | true =>
  obtain⟨N,hN,q2⟩:=q2
  rw [if_pos rfl]
  refine wpAny_passesOwn hp (thn (hb pins s2 σ1 H2 _ I2 q2) fun f s3 q3=>?_)
  cases f with
  | next =>
   obtain⟨σ3,H3,I3,n3⟩:=q3
   obtain⟨m',hm,w3⟩:=hN σ3 H3 n3
   exact⟨m',hm,σ3,H3,I3,w3⟩
  | cont =>
   obtain⟨σ3,H3,I3,n3⟩:=q3
   obtain⟨m',hm,w3⟩:=hN σ3 H3 n3
   exact⟨m',hm,σ3,H3,I3,w3⟩
  | brk=>exact q3
  | ret v=>exact q3
 | false =>
  rw [if_neg WE]
  exact wpAny_execs_nil ⟨σ1,H2,I2,q2⟩
end
structure It where
 go:Nat→Hp→Prop
 Js:Nat→Hp→V→Hp→Prop
 stop:Nat→Hp→Prop
def mB (X:Cx) (pins:List (WA × Obj)) (H:Hp) (b:WA):Prop :=
 H b=none∧b≠X.env.locals∧b∉X.fs∧(b∈X.ex∨X.s₀.heap.objs.size≤b)∧(∀x c,X.env.cells.lookup x=some c→c≠b)∧∀p∈X.pn++pins,p.1≠b
theorem Inv.AW {X:Cx} {pins:List (WA × Obj)} {σ:St} {H H':Hp} {s:Ws} {b:WA} (I:Inv X pins σ H s) (hb:s.heap.objs.size≤b) (hn:H' b=none):mB X pins H' b:=by
 refine⟨hn,Nat.ne_of_gt (WR I.lt hb),I.NC hb,.inr (W5 I.sz hb),fun x c e z=>?_,fun p hp z=>?_⟩
 ·obtain⟨v,q⟩:=I.cell x c e
  exact absurd (WR q.lt (by rw [z];exact hb)) (X6 _)
 ·exact absurd (WR (WH (I.pin p hp).1) (by rw [z];exact hb)) (X6 _)
structure Turn (P:WM) (w:Xj) (K:Wo) (tg:Expr) (J:It) (fp:List WA) (it:WA) (tn:Nat→Heap→Prop):Prop where
 mem:it∈fp
 obj:∀i h,tn i h→∀b∈fp,∃o,h.get? b=some o∧∀v,o.data≠.cell v
 keep:∀i h h',tn i h→(∀b∈fp,∀o,h.get? b=some o→h'.get? b=some o)→tn i h'
 item:∀(X:Cx),X.prog=P→X.w=w→X.K=K→X.calm=true→∀(i:Nat) (pins:List (WA × Obj)) (s:Ws) (σ:St) (H:Hp) (E:Wr→Ws→Prop),Inv X pins σ H s→(∀b∈fp,mB X pins H b)→tn i s.heap→J.go i H →
  W7 (model P w) X.A (pyNext (.ref it)) (fun r s1=>∃u,r=some u ∧
   W7 (model P w) X.A (letOwnedTupleGo tg (.ref it) u) (fun _ s2=>∃x H',Inv X pins σ H' s2∧RelV x u∧J.Js i H x H'∧tn (i+1) s2.heap∧∀b∈fp,H' b=none) E s1) E s
 done:∀(X:Cx),X.prog=P→X.w=w→X.K=K→X.calm=true→∀(i:Nat) (pins:List (WA × Obj)) (s:Ws) (σ:St) (H:Hp) (E:Wr→Ws→Prop),Inv X pins σ H s→(∀b∈fp,mB X pins H b)→tn i s.heap→J.stop i H →
  W7 (model P w) X.A (pyNext (.ref it)) (fun r s1=>r=none∧Inv X pins σ H s1) E s
 self:∀(A:Xf) (i:Nat) (s:Ws) (Q:Wr→Ws→Prop) (E:Wr→Ws→Prop),tn i s.heap→Q (.ref it) s→W7 (model P w) A (pyIter (.ref it)) Q E s
abbrev TI:=St→Hp→(It→Hp→Prop)→Prop
def NS (X:Cx) (pins:List (WA × Obj)) (σ:St) (tg:Expr) (R:It→Hp→Prop) (MR:Wr) (s2:Ws):Prop :=
 ∃(it:WA) (fp:List WA) (tn:Nat→Heap→Prop) (J:It) (H':Hp),MR=.ref it∧Inv X pins σ H' s2∧Turn X.prog X.w X.K tg J fp it tn∧tn 0 s2.heap∧(∀b∈fp,mB X pins H' b)∧R J H'
def PI (X:Cx) (tg iter:Expr) (wi:TI):Prop :=
 ∀(pins:List (WA × Obj)) (s:Ws) (σ:St) (H:Hp) (R:It→Hp→Prop),Inv X pins σ H s→wi σ H R →
  W7 (model X.prog X.w) X.A (eval iter X.env) (fun v s1=>W7 (model X.prog X.w) X.A (pyIter v) (NS X pins σ tg R) X.xe s1) X.xe s
theorem zL {M:Model} {A:Xf} {E:Wr→Ws→Prop} {s:Ws} {tg:Expr} {it:WA} {u:Wr} {o:Obj} {n:String} {vs:Array Wr} {Q:Unit→Ws→Prop} (ho:s.heap.get? it=some o) (hc:o.cls=.type n) (hd:o.data=.fields vs)
    (hn:["enumerate","zip","dict_itemiterator","dict_reverseitemiterator","odict_iterator","itertools.zip_longest","itertools.pairwise"].contains n=false) (hQ:Q () s):W7 M A (letOwnedTupleGo tg (.ref it) u) Q E s:=by
  unfold letOwnedTupleGo
  cases tg <;> first
    | exact WI hQ
    | (cases u <;> first
        | exact WI hQ
        | (refine Wu (wpAny_load ho ?_)
           rw [hc,hd]
           show W7 M A (if (["enumerate","zip","dict_itemiterator","dict_reverseitemiterator","odict_iterator","itertools.zip_longest","itertools.pairwise"].contains n && vs[0]? == some (rawInt _))=true then _ else _) Q E s
           rw [if_neg (by intro h;rw [hn,aal] at h;cases h)]
           exact WI hQ))
def Cq (K:Wo) (a:WA):It :=
 ⟨fun i H=>∃xs x,aI K H a xs∧xs[i]?=some x,fun i H x H'=>H'=H∧∀xs,aI K H a xs→xs[i]?=some x,fun i H=>∃xs,aI K H a xs∧xs.length≤i⟩
def JZ (K:Wo) (a:WA):It :=
 ⟨fun i H=>∃xs x,da K H a xs∧xs[i]?=some x,fun i H x H'=>H'=H∧∀xs,da K H a xs→xs[i]?=some x,fun i H=>∃xs,da K H a xs∧xs.length≤i⟩
def J0 (lo:Int) (n:Nat):It:=⟨fun i _=>i<n,fun i H x H'=>H'=H∧x=.int (lo+i),fun i _=>n≤i⟩
theorem AX {P:WM} {w:Xj} {K:Wo} {tg:Expr} (a it:WA):Turn P w K tg (Cq K a) [it] it (fun i h=>h.IsListIter it a i) where
 mem:=by simp
 obj:=fun i h st b hb=>by
  have e:b=it:=by simpa using hb
  subst e
  obtain⟨o,e,c,d⟩:=st
  exact⟨o,e,fun v z=>by rw [d] at z;cases z⟩
 keep:=fun i h h' st k=>st.at fun o e=>k it (by simp) o e
 item:=by
  intro X hP hw hK hc i pins s σ H E I hf st hg
  subst hP hw hK
  obtain⟨xs,x,hq,hx⟩:=hg
  obtain⟨its,rv,p,hz⟩:=I.list hq
  obtain⟨u,hu,ru⟩:=rv.get hx
  obtain⟨f0,f1,f2,f3,f4,f5⟩:=hf it (by simp)
  refine wpAny_pyNext_list_item st p.isList (x:=u) (by simpa using hu) fun h' wm sb=>?_
  have I1:Inv X pins σ H { s with heap:=h' }:=I.turned (t':=s.toks) (fun b o hb e=>(sb.2 b hb).trans e) f0 f1 f3 f4 f5
  obtain⟨o,e,c,d⟩:=id wm
  exact⟨u,rfl,zL (s:={ s with heap:=h' }) e c d (by decide) ⟨x,H,I1,ru,⟨rfl,fun ys hy=>by rw [I.Cp hy hq];exact hx⟩,wm,fun b hb=>(hf b hb).1⟩⟩
 done:=by
  intro X hP hw hK hc i pins s σ H E I hf st hg
  subst hP hw hK
  obtain⟨xs,hq,hx⟩:=hg
  obtain⟨its,rv,p,hz⟩:=I.list hq
  obtain⟨f0,f1,f2,f3,f4,f5⟩:=hf it (by simp)
  have hl:=rv.length
  exact wpAny_pyNext_list_end (I.ok.hd hc) st p.isList (by simp;omega) fun h' eb=>⟨rfl,I.turned (t':=s.toks) (fun b o hb e=>eb b o hb e) f0 f1 f3 f4 f5⟩
 self:=fun _ _ _ _ _ st h=>wpAny_pyIter_listiter st h
theorem yk {P:WM} {w:Xj} {K:Wo} {tg:Expr} (a it:WA):Turn P w K tg (JZ K a) [it] it (fun i h=>h.IsTupleIter it a i) where
 mem:=by simp
 obj:=fun i h st b hb=>by
  have e:b=it:=by simpa using hb
  subst e
  obtain⟨o,e,c,d⟩:=st
  exact⟨o,e,fun v z=>by rw [d] at z;cases z⟩
 keep:=fun i h h' st k=>st.at fun o e=>k it (by simp) o e
 item:=by
  intro X hP hw hK hc i pins s σ H E I hf st hg
  subst hP hw hK
  obtain⟨xs,x,hq,hx⟩:=hg
  obtain⟨its,rv,p,hz⟩:=I.tuple hq
  obtain⟨u,hu,ru⟩:=rv.get hx
  obtain⟨f0,f1,f2,f3,f4,f5⟩:=hf it (by simp)
  refine wpAny_pyNext_tuple_item st (show s.heap.IsTuple a its.toArray from p) (x:=u) (by simpa using hu) fun h' wm sb=>?_
  have I1:Inv X pins σ H { s with heap:=h' }:=I.turned (t':=s.toks) (fun b o hb e=>(sb.2 b hb).trans e) f0 f1 f3 f4 f5
  obtain⟨o,e,c,d⟩:=id wm
  exact⟨u,rfl,zL (s:={ s with heap:=h' }) e c d (by decide) ⟨x,H,I1,ru,⟨rfl,fun ys hy=>by rw [I.mz hy hq];exact hx⟩,wm,fun b hb=>(hf b hb).1⟩⟩
 done:=by
  intro X hP hw hK hc i pins s σ H E I hf st hg
  subst hP hw hK
  obtain⟨xs,hq,hx⟩:=hg
  obtain⟨its,rv,p,hz⟩:=I.tuple hq
  obtain⟨f0,f1,f2,f3,f4,f5⟩:=hf it (by simp)
  have hl:=rv.length
  exact wpAny_pyNext_tuple_end (I.ok.hd hc) st (show s.heap.IsTuple a its.toArray from p) (by simp;omega) fun h' eb=>⟨rfl,I.turned (t':=s.toks) (fun b o hb e=>eb b o hb e) f0 f1 f3 f4 f5⟩
 self:=fun _ _ _ _ _ st h=>wpAny_pyIter_tupleiter st h
theorem yl {P:WM} {w:Xj} {K:Wo} {tg:Expr} (it:WA) (lo:Int) (n:Nat):Turn P w K tg (J0 lo n) [it] it (fun i h=>IsRangeIter h it (lo+(i:Nat) * 1) ((n:Int) - (i:Nat)) 1) where
 mem:=by simp
 obj:=fun i h st b hb=>by
  have e:b=it:=by simpa using hb
  subst e
  exact⟨_,st,fun v z=>by
   have z':Data.fields _=Data.cell v:=z
   cases z'⟩
 keep:=fun i h h' st k=>k it (by simp) _ st
 item:=by
  intro X hP hw hK hc i pins s σ H E I hf st hg
  subst hP hw hK
  obtain⟨f0,f1,f2,f3,f4,f5⟩:=hf it (by simp)
  have W:=Walks.range (prog:=X.prog) (w:=X.w) (I.ok.hd hc) it lo 1 n
  refine W.item i s _ _ hg st fun v h' tk hv wm kk=>?_
  obtain⟨t,rfl⟩:=hv
  have I1:Inv X pins σ H { s with heap:=h',toks:=tk }:=I.turned (fun b o hb e=>kk b o (by simpa using hb) e) f0 f1 f3 f4 f5
  refine⟨_,rfl,zL (s:={ s with heap:=h',toks:=tk }) (n:="range_iterator") wm rfl rfl (by decide) ⟨.int (lo+i),H,I1,⟨t,?_⟩,⟨rfl,rfl⟩,wm,fun b hb=>(hf b hb).1⟩⟩
  rw [Int.mul_one]
 done:=by
  intro X hP hw hK hc i pins s σ H E I hf st hg
  subst hP hw hK
  obtain⟨f0,f1,f2,f3,f4,f5⟩:=hf it (by simp)
  exact wpAny_pyNext_range_end (I.ok.hd hc) st (by have:n≤i:=hg;omega) fun h' eb=>⟨rfl,I.turned (t':=s.toks) (fun b o hb e=>eb b o hb e) f0 f1 f3 f4 f5⟩
 self:=fun _ _ _ _ _ st h=>wpAny_pyIter_rangeiter st h
end L2
namespace L2
open PySem PySem.Spec PyProof.Rows
section
variable {X:Cx} {tg:Expr}
def J2 (K:Wo) (tl:TE):TI:=fun σ H R=>tl σ H fun x H1=>∃a,x=.ref a∧(∃xs,aI K H1 a xs)∧R (Cq K a) H1
def NT (K:Wo) (tl:TE):TI:=fun σ H R=>tl σ H fun x H1=>∃a,x=.ref a∧(∃xs,da K H1 a xs)∧R (JZ K a) H1
theorem bj {l:Expr} {tl:TE} (hl:PE X l tl):PI X tg l (J2 X.K tl):=by
 intro pins s σ H R I h
 refine thn (hl pins s σ H _ I h) fun v s1 ⟨x,H1,I1,r1,q1⟩=>?_
 obtain⟨a,e,⟨xs,hq⟩,q⟩:=q1
 subst e
 cases r1
 obtain⟨its,rv,p,hz⟩:=I1.list hq
 refine wpAny_pyIter_list p.isList ?_
 refine⟨s1.heap.objs.size,[s1.heap.objs.size],_,_,H1,rfl,I1.kept (t':=s1.toks) fun b o e=>Wx _ e,AX a _,⟨_,Xb _ rfl,rfl,rfl⟩,fun b hb=>?_,q⟩
 have e:b=s1.heap.objs.size:=by simpa using hb
 subst e
 exact I1.AW (Wz _) (I1.hok.fresh (Wz _))
theorem Hj {l:Expr} {tl:TE} (hl:PE X l tl):PI X tg l (NT X.K tl):=by
 intro pins s σ H R I h
 refine thn (hl pins s σ H _ I h) fun v s1 ⟨x,H1,I1,r1,q1⟩=>?_
 obtain⟨a,e,⟨xs,hq⟩,q⟩:=q1
 subst e
 cases r1
 obtain⟨its,rv,p,hz⟩:=I1.tuple hq
 refine wpAny_pyIter_tuple (show s1.heap.IsTuple a its.toArray from p) ?_
 refine⟨s1.heap.objs.size,[s1.heap.objs.size],_,_,H1,rfl,I1.kept (t':=s1.toks) fun b o e=>Wx _ e,yk a _,⟨_,Xb _ rfl,rfl,rfl⟩,fun b hb=>?_,q⟩
 have e:b=s1.heap.objs.size:=by simpa using hb
 subst e
 exact I1.AW (Wz _) (I1.hok.fresh (Wz _))
theorem Cr {pins:List (WA × Obj)} {σ:St} {H:Hp} {s:Ws} {R:It→Hp→Prop} {E:Wr→Ws→Prop} {lo hi:Int} {t u v:Tok} {tk:Nat} (I:Inv X pins σ H s) (h1:-(2 ^ 62)≤lo) (h2:lo<2 ^ 62) (h3:-(2 ^ 62)≤hi) (h4:hi<2 ^ 62)
  (q:R (J0 lo (hi - lo).toNat) H):W7 (model X.prog X.w) X.A (pyIter (.ref s.heap.objs.size)) (NS X pins σ tg R) E { s with heap:=s.heap.push { cls:=.type "range",data:=.fields #[.int lo t,.int hi u,.int 1 v] },toks:=tk }:=by
 refine wpAny_pyIter_range (IsRange.new ..) (small_one h1 h2 h3 h4) ?_
 have I1:Inv X pins σ H { s with heap:=s.heap.push { cls:=.type "range",data:=.fields #[.int lo t,.int hi u,.int 1 v] },toks:=tk }:=I.kept fun b o e=>Wx _ e
 refine⟨(s.heap.push { cls:=.type "range",data:=.fields #[.int lo t,.int hi u,.int 1 v] }).objs.size,[(s.heap.push { cls:=.type "range",data:=.fields #[.int lo t,.int hi u,.int 1 v] }).objs.size],_,_,H,rfl,
  I1.kept (t':=tk) fun b o e=>Wx _ e,yl _ lo (hi - lo).toNat,?_,fun b hb=>?_,q⟩
 ·have e1:lo+((0:Nat):Int) * 1=lo:=by simp
  have e2:(((hi - lo).toNat:Nat):Int) - ((0:Nat):Int)=Builtin.Range.rangeSize lo hi 1:=by rw [rangeSize_one];split <;> omega
  show IsRangeIter _ _ (lo+((0:Nat):Int) * 1) ((((hi - lo).toNat:Nat):Int) - ((0:Nat):Int)) 1
  rw [e1,e2]
  exact Xb _ rfl
 ·have e:b=(s.heap.push { cls:=.type "range",data:=.fields #[.int lo t,.int hi u,.int 1 v] }).objs.size:=by simpa using hb
  subst e
  exact I1.AW (Wz _) (I1.hok.fresh (Wz _))
def J3 (ta:TA):TI:=fun σ H R=>ta σ H fun vs H1=>∃j:Int,vs=[.int j]∧-(2 ^ 62)≤j∧j<2 ^ 62∧R (J0 0 j.toNat) H1
theorem jL {a:Expr} {ta:TA} {p pos:Pos} (hg:Gl X "range") (hm:X.mg "range"=none) (ha:PA X [a] ta) (hs:starEach [a] X.env=[(false,eval a X.env)]:=by rfl):PI X tg (.Call (.Name "range" p) [a] [] pos) (J3 ta):=by
 intro pins s σ H R I h
 refine Call_ (tV I hg hm boot_range (Y9 (thn (ha pos pins s σ H _ I h) fun us s1 ⟨vs,H1,I1,r1,q1⟩=>?_) hs rfl))
 obtain⟨j,e,q1,q2,q⟩:=q1
 subst e
 cases r1 with
 | cons r rr =>
  cases rr
  obtain⟨t,rfl⟩:=r
  exact call_range_1 (Cr I1 (by omega) (by omega) q1 q2 (by simpa using q))
def NU (wi:TI) (g:TG) (tb:TS):TS:=fun D σ H=>wi σ H fun J H1=>∃W:Nat→Nat→St→Hp→Prop,(∃m,W 0 m σ H1)∧∀i m σ H,W i m σ H →
 (J.stop i H∧D.nx σ H)∨(J.go i H∧∃N:St→Hp→Prop,(∀σ' H',N σ' H'→∃m',m'<m∧W (i+1) m' σ' H')∧∀x H',J.Js i H x H'→g x σ H' fun σ2 H2=>tb { D with nx:=N,ct:=N,bk:=D.nx } σ2 H2)
def gS (fp:List WA) (h:Heap):List (WA × Obj):=fp.filterMap fun b=>(h.get? b).map fun o=>(b,o)
theorem dH {fp:List WA} {h:Heap} {b:WA} {o:Obj} (hb:b∈fp) (e:h.get? b=some o):(b,o)∈gS fp h:=YG.mpr ⟨b,hb,by rw [e];rfl⟩
theorem AY {fp:List WA} {h:Heap} {p:WA × Obj} (hp:p∈gS fp h):p.1∈fp∧h.get? p.1=some p.2:=by
 obtain⟨b,hb,e⟩:=YG.mp hp
 cases q:h.get? b with
 | none=>rw [q] at e;cases e
 | some o =>
  rw [q] at e
  have e':(b,o)=p:=Xe e
  subst e'
  exact⟨hb,q⟩
theorem Inv.pinned {pins:List (WA × Obj)} {σ:St} {H:Hp} {s:Ws} {fp:List WA} (I:Inv X pins σ H s) (hf:∀b∈fp,mB X pins H b) (ho:∀b∈fp,∃o,s.heap.get? b=some o∧∀v,o.data≠.cell v):Inv X (pins++gS fp s.heap) σ H s :=
 I.zJ fun p hp=>(WU.mp hp).elim (fun z=>I.pin p (WD _ z)) fun z=>by
  obtain⟨hb,e⟩:=AY z
  obtain⟨f0,f1,f2,_⟩:=hf p.1 hb
  obtain⟨o,e',d⟩:=ho p.1 hb
  rw [e] at e';cases e'
  exact⟨e,f0,f1,f2,d⟩
theorem Inv.iU {pins pl:List (WA × Obj)} {σ:St} {H:Hp} {s:Ws} (I:Inv X (pins++pl) σ H s):Inv X pins σ H s:=I.zJ fun p hp=>I.pin p (WD _ (Xx _ hp))
theorem dk {iter:Expr} {body:List Stmt} {wi:TI} {g:TG} {tb:TS} {pos:Pos} (hp:PassesOwn (model X.prog X.w) X.A X.env X.xe) (hc:X.calm=true) (hi:PI X tg iter wi) (hg:PG X tg g) (hb:we X body tb)
  (hs:∀x,foldedSetIterable iter X.env x=pure x:=by intro _;rfl):PS X (.For tg iter body [] pos) (NU wi g tb):=by
 intro pins s σ H D I h
 refine wpAny_For (thn (hi pins s σ H _ I h) fun v s1 h1=>thn h1 fun MR s2 h2=>?_) hs
 obtain⟨it,fp,tn,J,H2,e,I2,T,Hk,f2,W,⟨m0,w0⟩,turn⟩:=h2
 subst e
 have pz:∀{H':Hp},(∀b∈fp,H' b=none)→∀b∈fp,mB X pins H' b:=fun hn b hb=>⟨hn b hb,(f2 b hb).2⟩
 refine codeAny_forLoop_any (fun n s'=>∃i σ' H',Inv X pins σ' H' s'∧tn i s'.heap∧(∀b∈fp,H' b=none)∧W i n σ' H') ?_ m0 ⟨0,σ,H2,I2,Hk,fun b hb=>(f2 b hb).1,w0⟩
 rintro n s3 ⟨i,σ3,H3,I3,Es,Q2,w3⟩
 rcases turn i n σ3 H3 w3 with⟨stop,qn⟩|⟨go,N,hN,step⟩
 ·refine wpAny_passesOwn hp (thn (T.done X rfl rfl rfl hc i pins s3 σ3 H3 X.xe I3 (pz Q2) Es stop) fun r s4 ⟨hr,I4⟩=>?_)
  subst hr
  exact wpAny_execs_nil ⟨σ3,H3,I4,qn⟩
 ·refine wpAny_passesOwn hp (thn (T.item X rfl rfl rfl hc i pins s3 σ3 H3 X.xe I3 (pz Q2) Es go) fun r s4 ⟨u,hr,h4⟩=>?_)
  subst hr
  refine wpAny_passesOwn hp (thn h4 fun _ s5 ⟨x,H5,I5,r5,y5,Ct,Ka⟩=>?_)
  have S0:=I5.pinned (pz Ka) (T.obj _ _ Ct)
  refine wpAny_passesOwn hp (thn (hg _ s5 σ3 H5 x u _ S0 r5 (step x H5 y5)) fun _ s6 ⟨σ6,H6,I6,q6⟩=>?_)
  refine wpAny_passesOwn hp (thn (hb _ s6 σ6 H6 _ I6 q6) fun f s7 q7=>?_)
  have again:∀{σ7:St} {H7:Hp},Inv X (pins++gS fp s5.heap) σ7 H7 s7→N σ7 H7→∃m,m<n∧∃i σ' H',Inv X pins σ' H' s7∧tn i s7.heap∧(∀b∈fp,H' b=none)∧W i m σ' H':=fun {σ7 H7} I7 n7=>by
   obtain⟨m',hm,w7⟩:=hN σ7 H7 n7
   refine⟨m',hm,i+1,σ7,H7,I7.iU,T.keep _ _ _ Ct fun b hb o e=>(I7.pin (b,o) (WD _ (WD _ (dH hb e)))).1,fun b hb=>?_,w7⟩
   obtain⟨o,e,d⟩:=T.obj _ _ Ct b hb
   exact(I7.pin (b,o) (WD _ (WD _ (dH hb e)))).2.1
  cases f with
  | next=>obtain⟨σ7,H7,I7,n7⟩:=q7;exact again I7 n7
  | cont=>obtain⟨σ7,H7,I7,n7⟩:=q7;exact again I7 n7
  | brk=>obtain⟨σ7,H7,I7,q7⟩:=q7;exact⟨σ7,H7,I7.iU,q7⟩
  | ret v=>obtain⟨x7,σ7,H7,I7,r7,q7⟩:=q7;exact⟨x7,σ7,H7,I7.iU,r7,q7⟩
end
theorem cf {K:Wo} {a:WA} {xs:List V} {g:TG} {tb:TS} {D:Ends} {σ:St} {H:Hp} (Pv:Nat→St→Hp→Prop) (h0:Pv 0 σ H) (hl:∀i σ H,i≤xs.length→Pv i σ H→aI K H a xs)
  (hs:∀i x σ H,xs[i]?=some x→Pv i σ H→g x σ H fun σ2 H2=>tb { D with nx:=Pv (i+1),ct:=Pv (i+1),bk:=D.nx } σ2 H2) (hd:∀σ H,Pv xs.length σ H→D.nx σ H) :
  ∃W:Nat→Nat→St→Hp→Prop,(∃m,W 0 m σ H)∧∀i m σ H,W i m σ H →
   ((Cq K a).stop i H∧D.nx σ H)∨((Cq K a).go i H∧∃N:St→Hp→Prop,(∀σ' H',N σ' H'→∃m',m'<m∧W (i+1) m' σ' H')∧∀x H',(Cq K a).Js i H x H'→g x σ H' fun σ2 H2=>tb { D with nx:=N,ct:=N,bk:=D.nx } σ2 H2):=by
 refine⟨fun i m σ H=>m=xs.length - i∧i≤xs.length∧Pv i σ H,⟨xs.length,by simp,Xs _,h0⟩,?_⟩
 rintro i m σ H ⟨rfl,hi,p⟩
 have q:=hl i σ H hi p
 by_cases pA:i<xs.length
 ·refine .inr ⟨⟨xs,xs[i],q,by simp [pA]⟩,Pv (i+1),fun σ' H' p'=>⟨xs.length - (i+1),by omega,rfl,pA,p'⟩,fun x H' y=>?_⟩
  obtain⟨e,y⟩:=y
  subst e
  exact hs i x σ _ (y xs q) p
 ·have e:i=xs.length:=by omega
  subst e
  exact .inl ⟨⟨xs,q,Wz _⟩,hd σ H p⟩
theorem EC {K:Wo} {a:WA} {xs:List V} {g:TG} {tb:TS} {D:Ends} {σ:St} {H:Hp} (Pv:Nat→St→Hp→Prop) (h0:Pv 0 σ H) (hl:∀i σ H,i≤xs.length→Pv i σ H→da K H a xs)
  (hs:∀i x σ H,xs[i]?=some x→Pv i σ H→g x σ H fun σ2 H2=>tb { D with nx:=Pv (i+1),ct:=Pv (i+1),bk:=D.nx } σ2 H2) (hd:∀σ H,Pv xs.length σ H→D.nx σ H) :
  ∃W:Nat→Nat→St→Hp→Prop,(∃m,W 0 m σ H)∧∀i m σ H,W i m σ H →
   ((JZ K a).stop i H∧D.nx σ H)∨((JZ K a).go i H∧∃N:St→Hp→Prop,(∀σ' H',N σ' H'→∃m',m'<m∧W (i+1) m' σ' H')∧∀x H',(JZ K a).Js i H x H'→g x σ H' fun σ2 H2=>tb { D with nx:=N,ct:=N,bk:=D.nx } σ2 H2):=by
 refine⟨fun i m σ H=>m=xs.length - i∧i≤xs.length∧Pv i σ H,⟨xs.length,by simp,Xs _,h0⟩,?_⟩
 rintro i m σ H ⟨rfl,hi,p⟩
 have q:=hl i σ H hi p
 by_cases pA:i<xs.length
 ·refine .inr ⟨⟨xs,xs[i],q,by simp [pA]⟩,Pv (i+1),fun σ' H' p'=>⟨xs.length - (i+1),by omega,rfl,pA,p'⟩,fun x H' y=>?_⟩
  obtain⟨e,y⟩:=y
  subst e
  exact hs i x σ _ (y xs q) p
 ·have e:i=xs.length:=by omega
  subst e
  exact .inl ⟨⟨xs,q,Wz _⟩,hd σ H p⟩
end L2
namespace L2
open PySem PySem.Spec PyProof.Rows
abbrev R2:=V→V→Hp→VK→Prop
def ow (X:Cx) (f:Wr→Wr→Sem Wr) (r:R2):Prop :=
 ∀(pins:List (WA × Obj)) (s:Ws) (σ:St) (H:Hp) (x y:V) (v u:Wr) (Q:VK),Inv X pins σ H s→RelV x v→RelV y u→r x y H Q →
  W7 (model X.prog X.w) X.A (f v u) (EP X pins σ Q) X.xe s
def NV (X:Cx) (f:Wr→Sem Wr) (r:V→Hp→VK→Prop):Prop :=
 ∀(pins:List (WA × Obj)) (s:Ws) (σ:St) (H:Hp) (x:V) (v:Wr) (Q:VK),Inv X pins σ H s→RelV x v→r x H Q →
  W7 (model X.prog X.w) X.A (f v) (EP X pins σ Q) X.xe s
def dZ (X:Cx) (f:Wr) (r:List V→Hp→VK→Prop):Prop :=
 ∀(pins:List (WA × Obj)) (s:Ws) (σ:St) (H:Hp) (xs:List V) (us:List Wr) (Q:VK),Inv X pins σ H s→Vals xs us→r xs H Q →
  W7 (model X.prog X.w) X.A (call f us) (EP X pins σ Q) X.xe s
def MS (r:R2) (ta tb:TE):TE:=fun σ H Q=>ta σ H fun x H1=>tb σ H1 fun y H2=>r x y H2 Q
def S1 (r:V→Hp→VK→Prop) (ta:TE):TE:=fun σ H Q=>ta σ H fun x H1=>r x H1 Q
def rI (C:Int→Int→Prop) (g:Int→Int→V):R2:=fun x y H Q=>∃i j,x=.int i∧y=.int j∧C i j∧Q (g i j) H
def Hl (g:Int→Int→V):R2:=fun x y H Q=>∃i j,x=.int i∧y=.int j∧Q (g i j) H
def rU (g:Int→V):V→Hp→VK→Prop:=fun x H Q=>∃i,x=.int i∧Q (g i) H
section
variable {X:Cx} {a b c:Expr} {ta tb tc:TE} {pos:Pos}
theorem Hm (ha:PE X a ta) (hb:PE X b tb) {pins:List (WA × Obj)} {s:Ws} {σ:St} {H:Hp} {R:V→V→Hp→Prop} (I:Inv X pins σ H s)
  (h:ta σ H fun x H1=>tb σ H1 fun y H2=>R x y H2) {Q:Wr→Ws→Prop} {f:Wr→Wr→Sem Wr}
  (hf:∀v u s2 x y H2,Inv X pins σ H2 s2→RelV x v→RelV y u→R x y H2→W7 (model X.prog X.w) X.A (f v u) Q X.xe s2) :
  W7 (model X.prog X.w) X.A (eval a X.env) (fun v s₁=>W7 (model X.prog X.w) X.A (eval b X.env) (fun u s₂=>W7 (model X.prog X.w) X.A (f v u) Q X.xe s₂) X.xe s₁) X.xe s:=by
 refine thn (ha pins s σ H _ I h) fun v s1 ⟨x,H1,I1,r1,q1⟩=>?_
 refine thn (hb pins s1 σ H1 _ I1 q1) fun u s2 ⟨y,H2,I2,r2,q2⟩=>?_
 exact hf v u s2 x y H2 I2 r1 r2 q2
theorem ar {op:Operator} {r:R2} (ho:ow X (binaryOp op) r) (ha:PE X a ta) (hb:PE X b tb):PE X (.BinOp a op b pos) (MS r ta tb):=by
 intro pins s σ H Q I h
 exact wpAny_BinOp (Hm ha hb I h fun v u s2 x y H2 I2 rx ry q=>ho pins s2 σ H2 x y v u Q I2 rx ry q)
theorem Kb {op:UnaryOp} {r:V→Hp→VK→Prop} (ho:NV X (unaryOp op) r) (ha:PE X a ta):PE X (.UnaryOp op a pos) (S1 r ta):=by
 intro pins s σ H Q I h
 exact UnaryOp_ (thn (ha pins s σ H _ I h) fun v s1 ⟨x,H1,I1,r1,q1⟩=>ho pins s1 σ H1 x v Q I1 r1 q1)
theorem NW {f:Wr→Wr→Sem Wr} {C:Int→Int→Prop} {g:Int→Int→Int}
  (rule:∀(i j:Int) (t u:Tok) (s:Ws) (Q:Wr→Ws→Prop) (E:Wr→Ws→Prop),C i j→Q (.int (g i j) s.toks) { s with toks:=s.toks+1 }→W7 (model X.prog X.w) X.A (f (.int i t) (.int j u)) Q E s) :
  ow X f (rI C fun i j=>.int (g i j)):=by
 intro pins s σ H x y v u Q I rx ry h
 obtain⟨i,j,rfl,rfl,hc,q⟩:=h
 obtain⟨t,rfl⟩:=rx
 obtain⟨t',rfl⟩:=ry
 exact rule i j t t' s _ _ hc ⟨.int (g i j),H,I.tok _,⟨_,rfl⟩,q⟩
theorem Kc {f:Wr→Wr→Sem Wr} {g:Int→Int→Int}
  (rule:∀(i j:Int) (t u:Tok) (s:Ws) (Q:Wr→Ws→Prop) (E:Wr→Ws→Prop),Q (.int (g i j) s.toks) { s with toks:=s.toks+1 }→W7 (model X.prog X.w) X.A (f (.int i t) (.int j u)) Q E s) :
  ow X f (Hl fun i j=>.int (g i j)):=by
 intro pins s σ H x y v u Q I rx ry h
 obtain⟨i,j,rfl,rfl,q⟩:=h
 obtain⟨t,rfl⟩:=rx
 obtain⟨t',rfl⟩:=ry
 exact rule i j t t' s _ _ ⟨.int (g i j),H,I.tok _,⟨_,rfl⟩,q⟩
theorem Hn {f:Wr→Wr→Sem Wr} {g:Int→Int→Bool}
  (rule:∀(i j:Int) (t u:Tok) (s:Ws) (Q:Wr→Ws→Prop) (E:Wr→Ws→Prop),Q (.bool (g i j)) s→W7 (model X.prog X.w) X.A (f (.int i t) (.int j u)) Q E s) :
  ow X f (Hl fun i j=>.bl (g i j)):=by
 intro pins s σ H x y v u Q I rx ry h
 obtain⟨i,j,rfl,rfl,q⟩:=h
 obtain⟨t,rfl⟩:=rx
 obtain⟨t',rfl⟩:=ry
 exact rule i j t t' s _ _ ⟨.bl (g i j),H,I,rfl,q⟩
def NY (i j:Int):Prop:=0<j∧j<1073741824
def Ho (i j:Int):Prop:=(-(2 ^ 64)<i∧i<2 ^ 64)∨(-(2 ^ 64)<j∧j<2 ^ 64)
theorem Ho.ok {i j:Int} (h:Ho i j):IntMulOk i j:=by
 rcases h with⟨h1,h2⟩|⟨h1,h2⟩
 ·exact .of_left (intBits_le_64 h1 h2)
 ·exact .of_right (intBits_le_64 h1 h2)
theorem de:ow X (binaryOp .Add) (Hl fun i j=>.int (i+j)):=Kc fun _ _ _ _ _ _ _ q=>add_int q
theorem tZ:ow X (binaryOp .Sub) (Hl fun i j=>.int (i - j)):=Kc fun _ _ _ _ _ _ _ q=>sub_int q
theorem t6:ow X (binaryOp .Mult) (rI Ho fun i j=>.int (i * j)):=NW fun _ _ _ _ _ _ _ hc q=>mul_int q hc.ok
theorem eW:ow X (binaryOp .FloorDiv) (rI NY fun i j=>.int (i / j)):=NW fun i j _ _ _ _ _ hc q=>by
 have h1:(0:Int)<j:=hc.1
 have h2:j<1073741824:=hc.2
 exact floordiv_int (by omega) (by rw [Int.fdiv_eq_ediv_of_nonneg i (by omega)];exact q) (.inl (PyProof.noPylong_small (by omega)))
theorem bQ:ow X (binaryOp .Mod) (rI (fun _ j=>0<j) fun i j=>.int (i % j)):=NW fun i j _ _ _ _ _ hc q=>by
 have h1:(0:Int)<j:=hc
 exact mod_int' (by omega) (by rw [Int.fmod_eq_emod_of_nonneg i (by omega)];exact q)
theorem S2 {f:Wr→Sem Wr} {g:Int→Int}
  (rule:∀(i:Int) (t:Tok) (s:Ws) (Q:Wr→Ws→Prop) (E:Wr→Ws→Prop),Q (.int (g i) s.toks) { s with toks:=s.toks+1 }→W7 (model X.prog X.w) X.A (f (.int i t)) Q E s) :
  NV X f (rU fun i=>.int (g i)):=by
 intro pins s σ H x v Q I rx h
 obtain⟨i,rfl,q⟩:=h
 obtain⟨t,rfl⟩:=rx
 exact rule i t s _ _ ⟨.int (g i),H,I.tok _,⟨_,rfl⟩,q⟩
theorem Hq:NV X (unaryOp .USub) (rU fun i=>.int (-i)):=S2 fun _ _ _ _ _ q=>neg_int q
end
def Ke:V→V→Bool
 | .bG,.bG=>true|.bG,.int _=>true|.int _,.bG=>true|.bG,.bl _=>true|.bl _,.bG=>true|.bG,.str _=>true|.str _,.bG=>true
 | .int _,.int _=>true|.bl _,.bl _=>true|.str _,.str _=>true|.Cd _,.Cd _=>true
 | .int _,.str _=>true|.str _,.int _=>true|.bl _,.str _=>true|.str _,.bl _=>true
 | _,_=>false
def S3:R2:=fun x y H Q=>Ke x y=true∧Q (.bl (decide (x=y))) H
def S4:R2:=fun x y H Q=>Ke x y=true∧Q (.bl (!decide (x=y))) H
theorem zM {i j:Int}:decide (V.int i=V.int j)=(i == j):=by
 rw [Ya]
 simp
theorem Cu {i j:Bool}:decide (V.bl i=V.bl j)=(i == j):=by
 rw [Ya]
 simp
theorem zN {i j:Str}:decide (V.str i=V.str j)=(i == j):=by
 rw [Ya]
 simp
theorem zO {i j:Array UInt8}:decide (V.Cd i=V.Cd j)=(i.toList == j.toList):=by
 rw [Ya]
 cases i
 cases j
 simp
section
variable {X:Cx} {a b c:Expr} {ta tb tc:TE} {pos:Pos}
theorem bf {pins:List (WA × Obj)} {σ:St} {H:Hp} {s:Ws} {Q:VK} {k k':Bool} (I:Inv X pins σ H s) (q:Q (.bl k) H) (e:k=k'):EP X pins σ Q (.bool k') s:=by
 subst e
 exact⟨.bl k,H,I,rfl,q⟩
theorem dm:ow X (compareOp .Eq) S3:=by
 intro pins s σ H x y v u Q I rx ry h
 obtain⟨hs,q⟩:=h
 cases x with
 | bG =>
  cases rx
  cases y with
  | bG=>cases ry;exact PySem.EqNone.eq_none_none (bf I q (by simp))
  | bl j=>cases ry;exact PySem.EqNone.eq_none_bool (bf I q (by simp))
  | int j=>obtain⟨t',rfl⟩:=ry;exact PySem.EqNone.eq_none_int (bf I q (by simp))
  | str j=>obtain⟨t',rfl⟩:=ry;exact PySem.EqNone.eq_none_str (bf I q (by simp))
  | _=>exact absurd (show false=true from hs) WE
 | bl i =>
  cases rx
  cases y with
  | bG=>cases ry;exact PySem.EqNone.eq_bool_none (bf I q (by simp))
  | bl j=>cases ry;exact eq_bool (bf I q Cu)
  | str j=>obtain⟨t',rfl⟩:=ry;exact PySem.EqMixed.eq_bool_str (bf I q (by simp))
  | _=>exact absurd (show false=true from hs) WE
 | int i =>
  obtain⟨t,rfl⟩:=rx
  cases y with
  | bG=>cases ry;exact PySem.EqNone.eq_int_none (bf I q (by simp))
  | int j=>obtain⟨t',rfl⟩:=ry;exact eq_int (bf I q zM)
  | str j=>obtain⟨t',rfl⟩:=ry;exact PySem.EqMixed.eq_int_str (bf I q (by simp))
  | _=>exact absurd (show false=true from hs) WE
 | str i =>
  obtain⟨t,rfl⟩:=rx
  cases y with
  | bG=>cases ry;exact PySem.EqNone.eq_str_none (bf I q (by simp))
  | bl j=>cases ry;exact PySem.EqMixed.eq_str_bool (bf I q (by simp))
  | int j=>obtain⟨t',rfl⟩:=ry;exact PySem.EqMixed.eq_str_int (bf I q (by simp))
  | str j=>obtain⟨t',rfl⟩:=ry;exact eq_str (bf I q zN)
  | _=>exact absurd (show false=true from hs) WE
 | Cd i =>
  obtain⟨t,rfl⟩:=rx
  cases y with
  | Cd j=>obtain⟨t',rfl⟩:=ry;exact PySem.W.eq_bytes (bf I q zO)
  | _=>exact absurd (show false=true from hs) WE
 | _=>cases y <;> exact absurd (show false=true from hs) WE
theorem gv:ow X (compareOp .NotEq) S4:=by
 intro pins s σ H x y v u Q I rx ry h
 obtain⟨hs,q⟩:=h
 cases x with
 | bG =>
  cases rx
  cases y with
  | bG=>cases ry;exact PySem.EqNone.ne_none_none (bf I q (by simp))
  | bl j=>cases ry;exact PySem.EqNone.ne_none_bool (bf I q (by simp))
  | int j=>obtain⟨t',rfl⟩:=ry;exact PySem.EqNone.ne_none_int (bf I q (by simp))
  | str j=>obtain⟨t',rfl⟩:=ry;exact PySem.EqNone.ne_none_str (bf I q (by simp))
  | _=>exact absurd (show false=true from hs) WE
 | bl i =>
  cases rx
  cases y with
  | bG=>cases ry;exact PySem.EqNone.ne_bool_none (bf I q (by simp))
  | bl j=>cases ry;exact ne_bool (bf I q (congrArg not Cu))
  | str j=>obtain⟨t',rfl⟩:=ry;exact PySem.EqMixed.ne_bool_str (bf I q (by simp))
  | _=>exact absurd (show false=true from hs) WE
 | int i =>
  obtain⟨t,rfl⟩:=rx
  cases y with
  | bG=>cases ry;exact PySem.EqNone.ne_int_none (bf I q (by simp))
  | int j=>obtain⟨t',rfl⟩:=ry;exact ne_int (bf I q (congrArg not zM))
  | str j=>obtain⟨t',rfl⟩:=ry;exact PySem.EqMixed.ne_int_str (bf I q (by simp))
  | _=>exact absurd (show false=true from hs) WE
 | str i =>
  obtain⟨t,rfl⟩:=rx
  cases y with
  | bG=>cases ry;exact PySem.EqNone.ne_str_none (bf I q (by simp))
  | bl j=>cases ry;exact PySem.EqMixed.ne_str_bool (bf I q (by simp))
  | int j=>obtain⟨t',rfl⟩:=ry;exact PySem.EqMixed.ne_str_int (bf I q (by simp))
  | str j=>obtain⟨t',rfl⟩:=ry;exact ne_str (bf I q (congrArg not zN))
  | _=>exact absurd (show false=true from hs) WE
 | Cd i =>
  obtain⟨t,rfl⟩:=rx
  cases y with
  | Cd j=>obtain⟨t',rfl⟩:=ry;exact PySem.W.ne_bytes (bf I q (congrArg not zO))
  | _=>exact absurd (show false=true from hs) WE
 | _=>cases y <;> exact absurd (show false=true from hs) WE
theorem jQ:ow X (compareOp .Lt) (Hl fun i j=>.bl (decide (i<j))):=Hn fun _ _ _ _ _ _ _ q=>lt_int q
theorem Gn:ow X (compareOp .LtE) (Hl fun i j=>.bl (decide (i≤j))):=Hn fun _ _ _ _ _ _ _ q=>le_int q
theorem wo:ow X (compareOp .Gt) (Hl fun i j=>.bl (decide (j<i))):=Hn fun _ _ _ _ _ _ _ q=>gt_int q
theorem fe:ow X (compareOp .In) (fun x y H Q=>∃i j,x=.str i∧y=.str j∧Q (.bl (!(Builtin.Str.occurrences j i 0 j.length 1).isEmpty)) H):=by
 intro pins s σ H x y v u Q I rx ry h
 obtain⟨i,j,rfl,rfl,q⟩:=h
 obtain⟨t,rfl⟩:=rx
 obtain⟨t',rfl⟩:=ry
 exact in_str (bf I q rfl)
theorem aK (b:Expr) {op:CmpOp} (h:op≠.In:=by decide) (h2:op≠.NotIn:=by decide):behindInMarks op b=false:=by
 have e1:(op == CmpOp.In)=false:=by cases op <;> first|rfl|exact absurd rfl h
 have e2:(op == CmpOp.NotIn)=false:=by cases op <;> first|rfl|exact absurd rfl h2
 cases b <;> simp [behindInMarks,e1,e2]
theorem cN {op:CmpOp} {r:R2} (ho:ow X (compareOp op) r) (ha:PE X a ta) (hb:PE X b tb) (hm:behindInMarks op b=false):PE X (.Compare a [op] [b] pos) (MS r ta tb):=by
 intro pins s σ H Q I h
 exact wpAny_Compare1 (Hm ha hb I h fun v u s2 x y H2 I2 rx ry q=>ho pins s2 σ H2 x y v u Q I2 rx ry q) hm
def Kf (t:TE):TT:=fun σ H Q=>t σ H fun x H'=>∃k,x=.bl k∧Q k H'
theorem aB {op:CmpOp} {r:R2} (ho:ow X (compareOp op) r) (ha:PE X a ta) (hb:PE X b tb) (hm:behindInMarks op b=false):PT X (.Compare a [op] [b] pos) (Kf (MS r ta tb)):=by
 intro pins s σ H Q I h
 refine wpAny_isTrue_Compare1 (thn (ha pins s σ H _ I h) fun v s1 ⟨x,H1,I1,r1,q1⟩=>thn (hb pins s1 σ H1 _ I1 q1) fun u s2 ⟨y,H2,I2,r2,q2⟩ =>
  thn (ho pins s2 σ H2 x y v u _ I2 r1 r2 q2) fun c s3 ⟨z,H3,I3,r3,k,e,q3⟩=>?_) hm
 subst e
 cases r3
 exact wpAny_truthy_bool ⟨H3,I3,q3⟩
def Hr (r r':R2) (ta tb tc:TE):TE:=fun σ H Q=>ta σ H fun x H1=>tb σ H1 fun y H2=>r x y H2 fun z H3=>∃k,z=.bl k ∧
 (if k=true then tc σ H3 fun w' H4=>r' y w' H4 Q else Q (.bl false) H3)
theorem Cv {op NZ:CmpOp} {r r':R2} (ho:ow X (compareOp op) r) (ho':ow X (compareOp NZ) r') (ha:PE X a ta) (hb:PE X b tb) (hc:PE X c tc)
  (hm:lastMarks [op,NZ] [b,c]=false:=by with_unfolding_all rfl):PE X (.Compare a [op,NZ] [b,c] pos) (Hr r r' ta tb tc):=by
 intro pins s σ H Q I h
 refine Compare_chain (thn (ha pins s σ H _ I h) fun v s1 ⟨x,H1,I1,r1,q1⟩=>chain_link (thn (hb pins s1 σ H1 _ I1 q1) fun u s2 ⟨y,H2,I2,r2,q2⟩ =>
  thn (ho pins s2 σ H2 x y v u _ I2 r1 r2 q2) fun d s3 ⟨z,H3,I3,r3,k,e,q3⟩=>?_)) hm
 subst e
 cases r3
 refine wpAny_truthy_bool ?_
 cases k with
 | false=>exact ite_ff ⟨.bl false,H3,I3,rfl,q3⟩
 | true=>exact ite_tt (chain_last (thn (hc pins s3 σ H3 _ I3 q3) fun w' s4 ⟨z',H4,I4,r4,q4⟩=>ho' pins s4 σ H4 y z' u w' Q I4 r2 r4 q4))
theorem pB:(Wt:Nat)<2 ^ 63:=by rw [XQ];decide
theorem ah:ow X (binaryOp .Add) (fun x y H Q=>∃i j,x=.str i∧y=.str j∧i.length+j.length≤Wt∧Q (.str (i++j)) H):=by
 intro pins s σ H x y v u Q I rx ry h
 obtain⟨i,j,rfl,rfl,hz,q⟩:=h
 obtain⟨t,rfl⟩:=rx
 obtain⟨t',rfl⟩:=ry
 exact add_str (fun t' tk=>⟨.str (i++j),H,I.tok _,⟨_,rfl⟩,q⟩) hz
theorem vals1 {x:V} {us:List Wr} (r:Vals [x] us):∃u,us=[u]∧RelV x u:=by
 cases r with
 | cons r1 r2=>cases r2;exact⟨_,rfl,r1⟩
theorem vals2 {x y:V} {us:List Wr} (r:Vals [x,y] us):∃u w',us=[u,w']∧RelV x u∧RelV y w':=by
 cases r with
 | cons r1 r2 =>
  cases r2 with
  | cons r3 r4=>cases r4;exact⟨_,_,rfl,r1,r3⟩
theorem t7:dZ X (.type "str") (fun xs H Q=>∃i,xs=[.int i]∧i.natAbs.log2<1920∧Q (.str (toString i)) H):=by
 intro pins s σ H xs us Q I r h
 obtain⟨i,rfl,hz,q⟩:=h
 obtain⟨u,rfl,t,rfl⟩:=vals1 r
 exact PySem.P.str_of_int hz ⟨.str _,H,I.tok _,⟨_,rfl⟩,q⟩
end
end L2
namespace L2
open PySem PySem.Spec PyProof.Rows
structure ym (h:Heap) (x dx C:WA) (mA:Str→Option Wr):Prop where
 obj:h.get? x=some (X2 C dx)
 ns:h.Ns1 dx mA
 ne:dx≠x
theorem AZ {h:Heap} {dx:WA} {mA:Str→Option Wr} (n:h.Ns1 dx mA):∃od,h.get? dx=some od∧∀name,Zr name od=some (mA name):=by
 obtain⟨o,es,ep,ho,hd,hk,_,hm⟩:=n
 refine⟨o,ho,fun name=>?_⟩
 have e:=hm name
 unfold nsFind findBy at e
 rw [← Array.find?_toList] at e
 unfold Zr
 rw [hd]
 dsimp only
 split
 ·rename_i y q
  rw [q] at e
  exact congrArg some e
 ·rename_i q
  rw [q] at e
  have a:es.toList.any (·.refKey)=false:=by
   rw [List.any_eq_false]
   intro y hy
   obtain⟨z,t,hkey⟩:=hk y (aaf.mp hy)
   simp [DictEntry.refKey,hkey]
  have a':¬ es.toList.any (·.refKey)=true:=by rw [a];exact WE
  rw [if_neg a']
  exact congrArg some e
theorem ym.look {h:Heap} {x dx C:WA} {mA:Str→Option Wr} (I:ym h x dx C mA):∃od,PySem.W.InstAt h x (X2 C dx) C (some od)∧∀name,Zr name od=some (mA name) :=
 let ⟨od,ho,hl⟩:=AZ I.ns
 ⟨od,⟨I.obj,rfl,rfl,ho⟩,hl⟩
section
variable {prog:WM} {w:Xj} {A:Xf} {E:Wr→Ws→Prop} {s:Ws} {K:Wo} {x dx C f:WA} {mA:Str→Option Wr} {name:Str} {v:Wr}
theorem get_map {expr:Bool} {Q:Wr→Ws→Prop} (X:K.In s.heap) (I:ym s.heap x dx C mA) (hg:XX K C name=true) (hh:X1 K C=true)
  (ha:XY K (.ref C) name=some none) (hv:mA name=some v) (hv':aaN v=true) (h:Q v { s with toks:=s.toks+1 }) :
  W7 (model prog w) A (getAttr (.ref x) name expr) Q E s:=by
 obtain⟨od,J,hl⟩:=I.look
 exact PySem.W.get_value X J (Za hg).1 (PySem.W.findObj_own hh ha rfl (by rw [hl,hv])) hv' h
theorem Cw {pl:Sem Bool} {Q:Wr × List Wr→Ws→Prop} (X:K.In s.heap) (I:ym s.heap x dx C mA) (hg:XX K C name=true)
  (hf:XY K (.ref C) name=some (some (.ref f))) (ht:aaJ K (.ref f)=true) (hv:mA name=none) (h:Q (.ref f,[.ref x]) s) :
  W7 (model prog w) A (getMethod (.ref x) name pl) Q E s:=by
 obtain⟨od,J,hl⟩:=I.look
 exact PySem.W.method_fn X J (Za hg).1 (Za hg).2 hf (beq_iff_eq.mp ht) (by show(Zr name od).map (·.isSome)=some false;rw [hl,hv];rfl) h
theorem ED {ns:List Str} {Q:Unit→Ws→Prop} (X:K.In s.heap) (I:ym s.heap x dx C mA)
  (hs:XY K (.ref C) "__setattr__"=some (some (.builtin "object.__setattr__"))) (hp:Yb K C=true) (ht:Z1 K C name=some none) (hh:X1 K C=true)
  (hw:aaI mA ns) (hsz:ns.length≤Wt)
  (h:∀h',ym h' x dx C (fun y=>if y=name then some v else mA y)→Zm dx s.heap h'→Q () { s with heap:=h',toks:=s.toks+2 }) :
  W7 (model prog w) A (setAttr (.ref x) name v) Q E s:=by
 obtain⟨od,J,hl⟩:=I.look
 refine PySem.W.set_plain X J hs (PySem.W.osa_open (s:={ s with toks:=s.toks+1 }) (r:=none) X J hp ht fun b=>?_)
 obtain⟨cd,hc,hd'⟩:=PySem.W.any_some hh
 have hx:s.heap.get? x=some ⟨.ref C,some dx,.plain,#[]⟩:=I.obj
 refine Wu (WI (Wu (Wu (wpAny_loadPart hx (Wu (PySem.W.Looks.here (s:={ s with toks:=s.toks+1 }) (PySem.W.looks_clsIn X hc) ?_))))))
 rw [hd']
 refine WI (a:=some dx) (Wu (WI (Wu ?_)))
 refine wpAny_nsSet1 (s:={ s with toks:=s.toks+1 }) I.ns fun h' MT Gp=>?_
 obtain⟨oD,VQ,VR,S5,S6,EE⟩:=MT.count (PySem.Within.cons name v hw)
 refine Wu (wpAny_lookBehind S5 (by rw [S6];exact pastItsLine_dict (W5 EE (by rw [WC];omega))) ?_)
 exact WI (h _ ⟨(Gp.2 _ (Xl I.ne)).trans I.obj,MT,I.ne⟩ Gp)
theorem Cy {R:Result→Ws→Prop} {vs:List Wr} {kw:List (Str × Wr)} (X:K.In s.heap) (hm:Yr K C=true)
  (hi:XY K (.ref C) "__init__"=some (some (.ref f))) (hf:Yl K (.ref f)=some (.type "function"))
  (h:codeAny (model prog w) (A.under (.builtin "type.__call__" ⟨.ref C::vs,kw⟩)) (.call (.ref f) ⟨.ref (s.heap.objs.size+1)::vs,kw⟩) (PySem.W.InitBack (s.heap.objs.size+1) R)
   { s with heap:=(s.heap.push XH).push (X2 C s.heap.objs.size) }) :
  codeAny (model prog w) A (.call (.ref C) ⟨vs,kw⟩) R s:=by
 obtain⟨hh,g,d,t,os⟩:=s
 exact PySem.W.make_core (PySem.W.makes_of X hm) (PySem.W.looks_findIn X hi) (fun self=>PySem.W.bind_fn X self hf) (.inl rfl) h
end
def bp (f:Str) (v:V):List (Str × V)→List (Str × V)
 | []=>[(f,v)]
 | (g,x)::r=>if g=f then (g,v)::r else (g,x)::bp f v r
theorem aO (f g:Str) (v:V):∀fs:List (Str × V),(bp f v fs).lookup g=if g=f then some v else fs.lookup g
 | []=>by
  show YC g [(f,v)]=_
  by_cases h:g=f
  ·have hb:(g == f)=true:=beq_iff_eq.mpr h
   simp only [YC,hb,if_pos h]
  ·have hb:(g == f)=false:=beq_eq_false_iff_ne.mpr h
   simp only [YC,hb,if_neg h]
 | (k,x)::r=>by
  have ih:=aO f g v r
  rw [show bp f v ((k,x)::r)=(if k=f then (k,v)::r else (k,x)::bp f v r) from rfl]
  by_cases hk:k=f
  ·rw [if_pos hk]
   by_cases h:g=k
   ·have hb:(g == k)=true:=beq_iff_eq.mpr h
    simp only [YC,hb,if_pos (h.trans hk)]
   ·have hb:(g == k)=false:=beq_eq_false_iff_ne.mpr h
    simp only [YC,hb,if_neg (fun e:g=f=>h (e.trans hk.symm))]
  ·rw [if_neg hk]
   by_cases h:g=k
   ·have hb:(g == k)=true:=beq_iff_eq.mpr h
    simp only [YC,hb,if_neg (fun e:g=f=>hk (h.symm.trans e))]
   ·have hb:(g == k)=false:=beq_eq_false_iff_ne.mpr h
    simp only [YC,hb]
    exact ih
theorem mC (f:Str) (v:V):∀fs:List (Str × V),f∈(bp f v fs).map (·.1)∧∀g,g∈fs.map (·.1)→g∈(bp f v fs).map (·.1)
 | []=>⟨by simp [bp],fun g h=>by simp at h⟩
 | (k,x)::r=>by
  obtain⟨i1,i2⟩:=mC f v r
  rw [show bp f v ((k,x)::r)=(if k=f then (k,v)::r else (k,x)::bp f v r) from rfl]
  by_cases hk:k=f
  ·rw [if_pos hk]
   subst hk
   exact⟨by simp,fun g h=>by simpa using h⟩
  ·rw [if_neg hk]
   refine⟨?_,fun g h=>?_⟩
   ·rw [Xd]
    exact Ww _ i1
   ·rw [Xd] at h ⊢
    rcases WS.mp h with e|e
    ·exact WS.mpr (.inl e)
    ·exact Ww _ (i2 g e)
theorem nG (f:Str) (v:V):∀fs:List (Str × V),(bp f v fs).length≤fs.length+1
 | []=>by simp [bp]
 | (k,x)::r=>by
  have ih:=nG f v r
  rw [show bp f v ((k,x)::r)=(if k=f then (k,v)::r else (k,x)::bp f v r) from rfl]
  by_cases hk:k=f
  ·rw [if_pos hk,WC,WC];omega
  ·rw [if_neg hk,WC,WC];omega
theorem iM.some_of {v:V} {o:Option Wr} (r:iM (some v) o):∃u,o=some u∧RelV v u:=by
 cases o with
 | none=>exact(show False from r).elim
 | some u=>exact⟨u,rfl,r⟩
theorem iM.none_of {o:Option Wr} (r:iM none o):o=none:=by
 cases o with
 | none=>rfl
 | some u=>exact(show False from r).elim
theorem A0 {v:V} {u:Wr} (r:RelV v u):aaN u=true:=by
 cases v with
 | tok x t=>cases (show u=XO x t from r);rfl
 | bG=>cases (show u=Zv from r);rfl
 | bl b=>cases (show u=Zw b from r);rfl
 | int i=>obtain⟨t,e⟩:=(show ∃t,u=aaQ i t from r);cases e;rfl
 | str x=>obtain⟨t,e⟩:=(show ∃t,u=XO x t from r);cases e;rfl
 | Cd b=>obtain⟨t,e⟩:=(show ∃t,u=Value.bytes b t from r);cases e;rfl
 | MJ b=>obtain⟨t,e⟩:=(show ∃t,u=Value.float b t from r);cases e;rfl
 | ref a=>cases (show u=Xg a from r);rfl
 | ty n=>cases (show u=Value.type n from r);rfl
section
variable {P:WM} {w:Xj} {H H':Hp} {h h':Heap} {a C dx:WA} {fs fs':List (Str × V)}
theorem t8 (hok:gO P w H h) (e:H a=some (.ins C dx fs)):∃mA,ym h a dx C mA∧(∀f,iM (fs.lookup f) (mA f))∧aaI mA (fs.map (·.1))∧fs.length≤1000∧H dx=some (.own a):=by
 obtain⟨d,z,ne,ob,mA,n,r,q⟩:=(show cF P w H h a (.ins C dx fs) from hok a _ e)
 exact⟨mA,⟨ob,n,ne⟩,r,q,z,d⟩
end
structure yn (K:Wo) (C:WA):Prop where
 pg:XX K C Yk=true
 hd:X1 K C=true
 po:Yb K C=true
 sa:XY K (.ref C) "__setattr__"=some (some (.builtin "object.__setattr__"))
theorem yn.get {K:Wo} {C:WA} (c:yn K C) (f:Str):XX K C f=true:=c.pg
def cA (K:Wo) (C:WA) (f:Str):Prop:=XY K (.ref C) f=some none
theorem cA.Kg {K:Wo} {C:WA} {f:Str} (n:cA K C f):Z1 K C f=some none:=by
 unfold Z1
 rw [show XY K (.ref C) f=some none from n]
 rfl
structure Meth (K:Wo) (C:WA) (m:Str) (f:WA):Prop where
 at_:XY K (.ref C) m=some (some (.ref f))
 fn:aaJ K (.ref f)=true
 kp:X8 K (.ref f)=true
section
variable {X:Cx} {pins:List (WA × Obj)} {σ:St} {H:Hp} {s:Ws} {a C dx:WA} {fs:List (Str × V)} {f:Str} {v:V} {A:Xf} {E:Wr→Ws→Prop}
theorem getattr_ok {b:Bool} {Q:Wr→Ws→Prop} (I:Inv X pins σ H s) (e:H a=some (.ins C dx fs)) (c:yn X.K C) (n:cA X.K C f) (l:fs.lookup f=some v)
  (h:∀u s',Inv X pins σ H s'→RelV v u→Q u s'):W7 (model X.prog X.w) A (getAttr (.ref a) f b) Q E s:=by
 obtain⟨mA,O,r,_,_,_⟩:=t8 I.hok e
 obtain⟨u,hu,ru⟩:=iM.some_of (v:=v) (o:=mA f) (by rw [← l];exact r f)
 exact get_map I.vY O (c.get f) c.hd n hu (A0 ru) (h u _ (I.tok _) ru)
theorem kj {m:Str} {g:WA} {pl:Sem Bool} {Q:Wr × List Wr→Ws→Prop} (I:Inv X pins σ H s) (e:H a=some (.ins C dx fs)) (c:yn X.K C) (k:Meth X.K C m g) (l:fs.lookup m=none)
  (h:Q (.ref g,[.ref a]) s):W7 (model X.prog X.w) A (getMethod (.ref a) m pl) Q E s:=by
 obtain⟨mA,O,r,_,_,_⟩:=t8 I.hok e
 have hn:mA m=none:=iM.none_of (by rw [← l];exact r m)
 exact Cw I.vY O (c.get m) k.at_ k.fn hn h
theorem yo {y:V} {u:Wr} {Q:Unit→Ws→Prop} (I:Inv X pins σ H s) (e:H a=some (.ins C dx fs)) (c:yn X.K C) (n:cA X.K C f) (hl:fs.length<1000) (ry:RelV y u)
  (h:∀s',Inv X pins σ (upd H a (.ins C dx (bp f y fs))) s'→Q () s'):W7 (model X.prog X.w) A (setAttr (.ref a) f u) Q E s:=by
 obtain⟨mA,O,r,wi,_,ho⟩:=t8 I.hok e
 have hz:(fs.map (·.1)).length≤Wt:=by rw [Lm9,XQ];omega
 refine ED I.vY O c.sa c.po n.Kg c.hd wi hz fun h' O' sb=>h _ ?_
 have hd:∃o,h'.get? dx=some o:=let ⟨o,_,_,e',_⟩:=O'.ns;⟨o,e'⟩
 refine I.write (x:=a) (e:=dx) (by rw [e];exact Zy) (.inr ho) (fun b q hb z=>(sb.2 b hb).trans z) hd ?_
 refine⟨by rw [aw O.ne];exact ho,?_,O.ne,O'.obj,_,O'.ns,fun g=>?_,fun g hg=>?_⟩
 ·have:=nG f y fs;omega
 ·show iM ((bp f y fs).lookup g) (if g=f then some u else mA g)
  rw [aO]
  by_cases q:g=f
  ·rw [if_pos q,if_pos q];exact ry
  ·rw [if_neg q,if_neg q];exact r g
 ·by_cases q:g=f
  ·rw [q];exact(mC f y fs).1
  ·refine(mC f y fs).2 g (wi g fun z=>hg ?_)
   show(if g=f then some u else mA g)=none
   rw [if_neg q];exact z
theorem Inv.made (I:Inv X pins σ H s):Inv X pins σ (upd (upd H s.heap.objs.size (.own (s.heap.objs.size+1))) (s.heap.objs.size+1) (.ins C s.heap.objs.size []))
  { s with heap:=(s.heap.push XH).push (X2 C s.heap.objs.size) }:=by
 have e1:(s.heap.push XH).get? s.heap.objs.size=some XH:=Xb s.heap rfl
 have e2:((s.heap.push XH).push (X2 C s.heap.objs.size)).get? (s.heap.objs.size+1)=some (X2 C s.heap.objs.size):=by
  have:=Xb (s.heap.push XH) (o:=X2 C s.heap.objs.size) rfl
  rwa [Zs] at this
 have e3:(s.heap.push XH).Ns s.heap.objs.size (fun _=>none):=⟨XH,#[],_,e1,rfl,(fun e he=>absurd he (by simp)),fun _=>rfl⟩
 have I1:=I.laid (a:=s.heap.objs.size) (o:=.own (s.heap.objs.size+1)) (h':=s.heap.push XH) (t':=s.toks) (fun b u q=>Wx _ q) (Wz _) ⟨_,e1⟩
 refine I1.laid (a:=s.heap.objs.size+1) (o:=.ins C s.heap.objs.size []) (t':=s.toks) (fun b u q=>Wx _ q) (Nat.le_of_eq (Zs _ _)) ?_
 have ne:s.heap.objs.size≠s.heap.objs.size+1:=W2 (ZM _)
 refine⟨by rw [aw ne,ae],Xs _,ne,e2,fun _=>none,(Heap.Ns1.of_empty e3).at fun o q=>Wx _ q,fun _=>Zy,fun y hy=>absurd rfl hy⟩
theorem attr_of {prog:WM} {w:Xj} {env:Env} {e:Expr} {f:Str} {pos:Pos} {s:Ws} {Q:Wr→Ws→Prop} (hb:attributeBase e f env (eval e env)=eval e env)
  (h:W7 (model prog w) A (eval e env) (fun o s₁=>W7 (model prog w) A (getAttr o f true) Q E s₁) E s):W7 (model prog w) A (eval (.Attribute e f pos) env) Q E s :=
 Attribute_any_ h (by rw [arm_eval_Attribute,hb])
end
def tFld (K:Wo) (ta:TE) (f:Str):TE:=fun σ H Q=>ta σ H fun x H1=>∃a C dx fs v,x=.ref a∧H1 a=some (.ins C dx fs)∧yn K C∧cA K C f∧fs.lookup f=some v∧Q v H1
def N1 (K:Wo) (ta tv:TE) (f:Str):TS:=fun D σ H=>tv σ H fun y H1=>ta σ H1 fun x H2=>∃a C dx fs,x=.ref a∧H2 a=some (.ins C dx fs)∧yn K C∧cA K C f∧fs.length<1000 ∧
 D.nx σ (upd H2 a (.ins C dx (bp f y fs)))
section
variable {X:Cx} {o e value:Expr} {f:Str} {pos pos' Kh:Pos} {ta tv:TE}
theorem pe_fld (he:PE X e ta) (hb:attributeBase e f X.env (eval e X.env)=eval e X.env):PE X (.Attribute e f pos) (tFld X.K ta f):=by
 intro pins s σ H Q I h
 refine attr_of hb (thn (he pins s σ H _ I h) fun u s1 ⟨x,H1,I1,rx,a,C,dx,fs,v,ex,ea,c,n,l,q⟩=>?_)
 subst ex
 obtain rfl:u=Xg a:=rx
 exact getattr_ok I1 ea c n l fun u' s2 I2 ru=>⟨v,H1,I2,ru,q⟩
theorem ps_fld (ha:PE X o ta) (hv:PE X value tv) (hs:swapsWith value (some (.Attribute o f pos')) pos.line X.env=pure false):PS X (.Assign [.Attribute o f pos'] value pos) (N1 X.K ta tv f):=by
 intro pins s σ H D I h
 refine plainObj_wpAny_Assign_Attribute (thn (hv pins s σ H _ I h) fun u s1 ⟨y,H1,I1,ry,q⟩=>thn (ha pins s1 σ H1 _ I1 q) fun ov s2 ⟨x,H2,I2,rx,a,C,dx,fs,ex,ea,c,n,l,q2⟩=>?_) hs
 subst ex
 obtain rfl:ov=Xg a:=rx
 exact yo I2 ea c n l ry fun s3 I3=>⟨σ,_,I3,q2⟩
theorem Gq {pl:Sem Bool} {m:Str} {apos:Pos} {args:List Expr} {pins:List (WA × Obj)} {s:Ws} {σ:St} {H:Hp} {Q:Wr→Ws→Prop} {te:TE} (he:PE X e te) (I:Inv X pins σ H s)
  (h:te σ H fun x H1=>∃a C dx fs g,x=.ref a∧H1 a=some (.ins C dx fs)∧yn X.K C∧Meth X.K C m g∧fs.lookup m=none ∧
   ∀s1,Inv X pins σ H1 s1→W7 (model X.prog X.w) X.A (callWith pos (.ref g) [.ref a] (backTo pos (starEach args X.env)) (backToKw pos (keywordEach [] X.env))) Q X.xe s1)
  (ht:eval (.Call (.Attribute e m apos) args [] pos) X.env=(do
   let ov ← eval e X.env
   standAt apos.atName
   let (f,first) ← holding [ov] (getMethod ov m pl)
   callWith pos f first (backTo pos (starEach args X.env)) (backToKw pos (keywordEach [] X.env)))) :
  W7 (model X.prog X.w) X.A (eval (.Call (.Attribute e m apos) args [] pos) X.env) Q X.xe s:=by
 refine YX (pl:=pl) (thn (he pins s σ H _ I h) fun u s1 ⟨x,H1,I1,rx,a,C,dx,fs,g,ex,ea,c,k,l,q⟩=>?_) ht
 subst ex
 obtain rfl:u=Xg a:=rx
 exact kj I1 ea c k l (q s1 I1)
end
section
variable {X:Cx} {pins:List (WA × Obj)} {σ:St} {H:Hp} {s:Ws} {A:Xf} {E:Wr→Ws→Prop} {Q:Wr→Ws→Prop} {c:Wr} {b:Bool}
end
end L2
namespace L2
open PySem PySem.Spec PyProof.Rows
structure cS (k:Nat) (A:Xf):Prop where
 hd:A.handled=none
 dp:A.depth+3 * k+5<recursionLimit
 un:A.units+16 * k+200<cLine
 gd:A.guards=some []
theorem cS.mono {j k:Nat} {A:Xf} (r:cS k A) (h:j≤k):cS j A:=⟨r.hd,by have:=r.dp;omega,by have:=r.un;omega,r.gd⟩
theorem cS.deeper {k:Nat} {A:Xf} (r:cS (k+1) A) (env:Env):cS k (A.deeper env) :=
 ⟨r.hd,by have:=r.dp;show A.depth+1+3 * k+5<_;omega,by have:=r.un;show A.units+3+16 * k+200<_;omega,r.gd⟩
theorem yp {A:Xf} {C:WA} {us:List Wr} {kw:List (Str × Wr)}:(A.under (.builtin "type.__call__" ⟨.ref C::us,kw⟩)).depth=A.depth+1:=by
 first|rfl|simp [Z2,Code.weight,Code.isCreation,Code.isGuard,Code.isCaller,Code.frames,aaK,guardIds]
theorem yq {A:Xf} {C:WA} {us:List Wr} {kw:List (Str × Wr)}:(A.under (.builtin "type.__call__" ⟨.ref C::us,kw⟩)).units=A.units+1:=by
 first|rfl|simp [Z2,Code.cUnits,Code.frames,aaK]
theorem wq {A:Xf} {C:WA} {us:List Wr} {kw:List (Str × Wr)}:(A.under (.builtin "type.__call__" ⟨.ref C::us,kw⟩)).guards=A.guards:=by
 first|rfl|simp [Z2,pushGuards,Code.guards,Code.isGuard,guardIds]
theorem cS.make {k:Nat} {A:Xf} (r:cS (k+1) A) (C:WA) (us:List Wr) (kw:List (Str × Wr)):cS k (A.under (.builtin "type.__call__" ⟨.ref C::us,kw⟩)) :=
 ⟨r.hd,by have:=r.dp;rw [yp];omega,by have:=r.un;rw [yq];omega,by rw [wq];exact r.gd⟩
theorem cS.depth {k:Nat} {A:Xf} (r:cS k A):A.depth<recursionLimit:=by have:=r.dp;omega
theorem cS.units {k:Nat} {A:Xf} (r:cS k A):A.units+64<cLine:=by have:=r.un;omega
def Hs:TA:=fun _ H Q=>Q [] H
def Ki (ta:TE) (tr:TA):TA:=fun σ H Q=>ta σ H fun x H1=>tr σ H1 fun xs H2=>Q (x::xs) H2
section
variable {X:Cx} {e:Expr} {es:List Expr} {te:TE} {t:TA} {pos:Pos}
theorem ag:PA X [] Hs:=fun _ _ _ _ H Q I h=>Calls.spliced_nil ⟨[],H,I,.nil,h⟩
theorem aa (ha:PE X e te) (hr:PA X es t) (hs:starEach (e::es) X.env=(false,eval e X.env)::starEach es X.env:=by rfl):PA X (e::es) (Ki te t):=by
 intro pos pins s σ H Q I h
 rw [hs]
 show W7 _ _ (spliced ((false,eval e X.env)::backTo pos (starEach es X.env))) _ _ s
 refine Zo (thn (ha pins s σ H _ I h) fun u s1 ⟨x,H1,I1,r1,q1⟩=>?_)
 exact thn (hr pos pins s1 σ H1 _ I1 q1) fun us s2 ⟨xs,H2,I2,r2,q2⟩=>⟨x::xs,H2,I2,.cons r1 r2,q2⟩
def N2 (t:TA):TE:=fun σ H Q=>t σ H fun xs H1=>xs.length≤Wt∧∀p,H1 p=none→Q (.ref p) (upd H1 p (.tup xs))
def N3 (t:TA):TE:=fun σ H Q=>t σ H fun xs H1=>xs.length≤Wt∧∀p,H1 p=none→Q (.ref p) (upd H1 p (.lst xs))
theorem dI {x1} (h:PA X es t):PE X (.Tuple es x1 pos) (N2 t):=by
 intro pins s σ H Q I hq
 refine wpAny_Tuple_spliced (thn (h pos pins s σ H _ I hq) fun us s1 ⟨xs,H1,I1,r,z,q⟩=>⟨by rw [← r.length];exact z,?_⟩)
 have hf:H1 s1.heap.objs.size=none:=I1.hok.fresh (Wz _)
 refine⟨.ref s1.heap.objs.size,upd H1 s1.heap.objs.size (.tup xs),I1.laid (t':=s1.toks) (fun b u e=>Wx _ e) (Wz _) ?_,rfl,q _ hf⟩
 exact⟨z,us,r,⟨_,Xb _ rfl,rfl,_,rfl⟩⟩
theorem aL (h:PA X es t):PE X (.List es pos) (N3 t):=by
 intro pins s σ H Q I hq
 refine wpAny_List_spliced (thn (h pos pins s σ H _ I hq) fun us s1 ⟨xs,H1,I1,r,z,q⟩=>⟨by rw [← r.length];exact z,?_⟩)
 have hf:H1 s1.heap.objs.size=none:=I1.hok.fresh (Wz _)
 refine⟨.ref s1.heap.objs.size,upd H1 s1.heap.objs.size (.lst xs),I1.laid (t':=s1.toks) (fun b u e=>Wx _ e) (Wz _) ?_,rfl,q _ hf⟩
 exact⟨z,us,0,r,Xb _ rfl⟩
end
abbrev Sp:=List V→Hp→VK→XK→Prop
abbrev A1:=List Env→Hp→Ws→XK→Wr→Ws→Prop
structure yr (P:WM) (w:Xj) (K:Wo) (mg:Str→Option Wr) (base:Heap) (A:Xf) (outer:List Env) (s:Ws) (H:Hp):Prop where
 frames:A.frames=some outer
 mod:Mod K mg base
 bs:∀b o,base.get? b=some o→s.heap.get? b=some o∧H b=none
 Ep:base.objs.size≤s.heap.objs.size
 ly:s.heap.FunFrames base outer
 Gm:∀b∈cR outer,H b=none
 hok:gO P w H s.heap
 bare:AllBare s.gens
def CE (outer:List Env) (P:WM) (w:Xj) (H:Hp) (s:Ws) (Q:VK) (u:Wr) (s':Ws):Prop :=
 ∃v H',s'.os=s.os∧AllBare s'.gens∧Un (cR outer) [] H H' s.heap s'.heap∧gO P w H' s'.heap∧RelV v u∧Q v H'
def CR (CX:A1) (outer:List Env) (P:WM) (w:Xj) (H:Hp) (s:Ws) (Q:VK) (E:XK) (r:Result) (s':Ws):Prop :=
 match r with
 | .ok (.ret u)=>CE outer P w H s Q u s'
 | .ok _=>False
 | .error e=>CX outer H s E e s'
structure aU (P:WM) (w:Xj) (K:Wo) (mg:Str→Option Wr) (base:Heap) (CX:A1) (k:Nat) (f:WA) (fd:Xk) (ps:List Str) (sp:Sp):Prop where
 len:∀vs H Q E,sp vs H Q E→vs.length=ps.length
 run:∀(A:Xf) (outer:List Env) (s:Ws) (H:Hp) (args:Args) (us:List Wr) (vs:List V) (Q:VK) (E:XK),cS k A→yr P w K mg base A outer s H→BindsTo s fd args (ps.zip us)→Vals vs us→sp vs H Q E →
  codeAny (model P w) A (.call (.ref f) args) (CR CX outer P w H s Q E) s
theorem yr.make {P:WM} {w:Xj} {K:Wo} {mg:Str→Option Wr} {base:Heap} {A:Xf} {outer:List Env} {s:Ws} {H:Hp} (e:yr P w K mg base A outer s H) (C:WA) (us:List Wr) (kw:List (Str × Wr)) :
  yr P w K mg base (A.under (.builtin "type.__call__" ⟨.ref C::us,kw⟩)) outer s H:=⟨by first|exact e.frames|(simpa [Z2,Code.envs,aaK,pushEnvs] using e.frames),e.mod,e.bs,e.Ep,e.ly,e.Gm,e.hok,e.bare⟩
section
variable {X:Cx} {pins:List (WA × Obj)} {σ:St} {H:Hp} {s s':Ws}
theorem Inv.Ht (I:Inv X pins σ H s):yr X.prog X.w X.K X.mg X.base X.A X.stack s H :=
 ⟨I.ok.frames,I.ok.mod,I.bs,W5 I.ok.Ep I.sz,I.stack,I.tU,I.hok,I.bare⟩
theorem Inv.after {Q:VK} {u:Wr} (I:Inv X pins σ H s) (h:CE X.stack X.prog X.w H s Q u s'):EP X pins σ Q u s':=by
 obtain⟨v,H',os,bare,un,hok,r,q⟩:=h
 obtain⟨hh,g,d,t,S7⟩:=s'
 obtain rfl:S7=s.os:=os
 exact⟨v,H',I.call (h':=hh) (g':=g) (d':=d) (t':=t) (ch:=[]) un hok bare (fun b z=>absurd z (by simp)),r,q⟩
end
def Cz (sp:Sp) (km:List V) (E:XK) (t:TA):TE:=fun σ H Q=>t σ H fun vs H1=>sp (vs++km) H1 Q E
def zP (C:WA) (m:Str) (sp:Sp) (km:List V) (E:XK) (ta:TE) (t:TA):TE:=fun σ H Q=>ta σ H fun x H1=>∃a dx fs,x=.ref a∧H1 a=some (.ins C dx fs)∧fs.lookup m=none ∧
 t σ H1 fun vs H2=>sp (x::(vs++km)) H2 Q E
def Gr (C:WA) (sp:Sp) (km:List V) (E:XK) (t:TA):TE:=fun σ H Q=>t σ H fun vs H1=>∀x dx,H1 x=none→H1 dx=none→dx≠x →
 sp (.ref x::(vs++km)) (upd (upd H1 dx (.own x)) x (.ins C dx [])) (fun v H2=>v=.bG∧Q (.ref x) H2) E
def Binds (K:Wo) (fd:Xk) (ps:List Str) (ds:List Wr):Prop :=
 ∀(s:Ws) (us:List Wr),K.In s.heap→(us++ds).length=ps.length→BindsTo s fd ⟨us,[]⟩ (ps.zip (us++ds))
theorem Binds.all {K:Wo} {fd:Xk} {ps:List Str} (h:∀us:List Wr,us.length=ps.length→bindArgs fd ⟨us,[]⟩=pure (ps.zip us)):Binds K fd ps []:=fun s us _ hl=>by
 rw [Xh] at hl ⊢
 exact .of_eq (h us hl)
def Passes (CX:A1) (X:Cx) (E:XK):Prop:=∀(pins:List (WA × Obj)) (σ:St) (H:Hp) (s:Ws) (e:Wr) (s':Ws),Inv X pins σ H s→CX X.stack H s E e s'→X.xe e s'
section
variable {X:Cx} {CX:A1} {k:Nat} {f C:WA} {fd:Xk} {ps:List Str} {sp:Sp} {km:List V} {ds:List Wr} {E:XK} {x m:Str} {p pos apos:Pos} {e o:Expr} {es:List Expr} {ta:TE} {t:TA}
theorem yt {pins:List (WA × Obj)} {σ:St} {H:Hp} {s:Ws} {Q:VK} {us:List Wr} {vs:List V} (F:aU X.prog X.w X.K X.mg X.base CX k f fd ps sp) (hr:cS k X.A) (hb:Binds X.K fd ps ds) (hd:Vals km ds) (hx:Passes CX X E)
  (I:Inv X pins σ H s) (r:Vals vs us) (h:sp (vs++km) H Q E):W7 (model X.prog X.w) X.A (call (.ref f) us) (EP X pins σ Q) X.xe s:=by
 have r2:Vals (vs++km) (us++ds):=r.append hd
 have hl:(us++ds).length=ps.length:=by rw [← r2.length];exact F.len _ _ _ _ h
 refine wpAny_call (codeAny_mono (F.run X.A X.stack s H ⟨us,[]⟩ (us++ds) (vs++km) Q E hr I.Ht (hb s us I.vY hl) r2 h) fun r s' hq=>?_)
 cases r with
 | error e=>exact hx pins σ H s e s' I hq
 | ok fl =>
  cases fl with
  | ret u=>exact I.after hq
  | next=>exact XG hq
  | brk=>exact XG hq
  | cont=>exact XG hq
theorem zQ (F:aU X.prog X.w X.K X.mg X.base CX k f fd ps sp) (hr:cS k X.A) (hg:Gl X x) (hm:X.mg x=some (.ref f)) (hk:X8 X.K (.ref f)=true) (hb:Binds X.K fd ps ds) (hd:Vals km ds) (hx:Passes CX X E)
  (ha:PA X (e::es) t) (rb:(x == ("__debug__":Str))=false:=by decide) (he:starEach (e::es) X.env=(false,eval e X.env)::starEach es X.env:=by rfl) (hpl:(backTo pos (starEach es X.env)).any (·.1)=false:=by rfl) :
  PE X (.Call (.Name x p) (e::es) [] pos) (Cz sp km E t):=by
 intro pins s σ H Q I h
 refine wpAny_Call_Name_kw (jK I hg hm ?_ rb)
 refine YH (h₀:=X.base) I.ok.mod.Gk hk (thn (ha pos pins s σ H _ I h) fun us s1 ⟨vs,H1,I1,r,q⟩=>⟨I1.vY,?_⟩) he hpl
 exact yt F hr hb hd hx I1 r q
theorem EF {pl:Sem Bool} (he:PE X o ta) (c:yn X.K C) (hm:Meth X.K C m f) (F:aU X.prog X.w X.K X.mg X.base CX k f fd ps sp) (hr:cS k X.A) (hb:Binds X.K fd ps ds) (hd:Vals km ds) (hx:Passes CX X E) (ha:PA X (e::es) t)
  (vZ:starEach (e::es) X.env=(false,eval e X.env)::starEach es X.env:=by rfl) (hpl:(backTo pos (starEach es X.env)).any (·.1)=false:=by rfl)
  (ht:eval (.Call (.Attribute o m apos) (e::es) [] pos) X.env=(do
   let ov ← eval o X.env
   standAt apos.atName
   let (f,first) ← holding [ov] (getMethod ov m pl)
   callWith pos f first (backTo pos (starEach (e::es) X.env)) (backToKw pos (keywordEach [] X.env))):=by rfl) :
  PE X (.Call (.Attribute o m apos) (e::es) [] pos) (zP C m sp km E ta t):=by
 intro pins s σ H Q I h
 refine YX (pl:=pl) (thn (he pins s σ H _ I h) fun u s1 ⟨x,H1,I1,rx,a,dx,fs,ex,ea,l,q⟩=>?_) ht
 subst ex
 obtain rfl:u=Xg a:=rx
 refine kj I1 ea c hm l ?_
 refine YH (first:=[.ref a]) (h₀:=X.base) I.ok.mod.Gk hm.kp (thn (ha pos pins s1 σ H1 _ I1 q) fun us s2 ⟨vs,H2,I2,r,q2⟩=>⟨I2.vY,?_⟩) vZ hpl
 exact yt (us:=.ref a::us) (vs:=.ref a::vs) F hr hb hd hx I2 (.cons rfl r) q2
theorem CA {pl:Sem Bool} (he:PE X o ta) (c:yn X.K C) (hm:Meth X.K C m f) (F:aU X.prog X.w X.K X.mg X.base CX k f fd ps sp) (hr:cS k X.A) (hb:Binds X.K fd ps ds) (hd:Vals km ds) (hx:Passes CX X E)
  (ht:eval (.Call (.Attribute o m apos) [] [] pos) X.env=(do
   let ov ← eval o X.env
   standAt apos.atName
   let (f,first) ← holding [ov] (getMethod ov m pl)
   callWith pos f first (backTo pos (starEach [] X.env)) (backToKw pos (keywordEach [] X.env))):=by rfl) :
  PE X (.Call (.Attribute o m apos) [] [] pos) (zP C m sp km E ta Hs):=by
 intro pins s σ H Q I h
 refine YX (pl:=pl) (thn (he pins s σ H _ I h) fun u s1 ⟨x,H1,I1,rx,a,dx,fs,ex,ea,l,q⟩=>?_) ht
 subst ex
 obtain rfl:u=Xg a:=rx
 refine kj I1 ea c hm l ?_
 exact PySem.W.callWith_K0 (first:=[.ref a]) I1.vY hm.kp (yt (us:=[.ref a]) (vs:=[.ref a]) F hr hb hd hx I1 (.cons rfl .nil) q)
structure Mk (K:Wo) (C f:WA):Prop where
 makes:Yr K C=true
 init:XY K (.ref C) "__init__"=some (some (.ref f))
 fn:aaJ K (.ref f)=true
 kp:X8 K (.ref C)=true
theorem CB {pins:List (WA × Obj)} {σ:St} {H:Hp} {s:Ws} {Q:VK} {us:List Wr} {vs:List V} (M:Mk X.K C f) (F:aU X.prog X.w X.K X.mg X.base CX k f fd ps sp) (hr:cS (k+1) X.A) (hb:Binds X.K fd ps ds) (hd:Vals km ds)
  (hx:Passes CX X E) (I:Inv X pins σ H s) (r:Vals vs us)
  (h:∀x dx,H x=none→H dx=none→dx≠x→sp (.ref x::(vs++km)) (upd (upd H dx (.own x)) x (.ins C dx [])) (fun v H2=>v=.bG∧Q (.ref x) H2) E) :
  W7 (model X.prog X.w) X.A (call (.ref C) us) (EP X pins σ Q) X.xe s:=by
 have hq:=h (s.heap.objs.size+1) s.heap.objs.size (I.hok.fresh (Nat.le_succ _)) (I.hok.fresh (Wz _)) (W2 (ZM _))
 have I2:=Inv.made (C:=C) I
 have r2:Vals (V.ref (s.heap.objs.size+1)::(vs++km)) (Xg (s.heap.objs.size+1)::(us++ds)):=.cons rfl (r.append hd)
 have hl:(Xg (s.heap.objs.size+1)::us++ds).length=ps.length:=by
  have e:=r2.length
  rw [F.len _ _ _ _ hq] at e
  exact e.symm
 refine wpAny_call (Cy (f:=f) I.vY M.makes M.init (beq_iff_eq.mp M.fn) (codeAny_mono (F.run _ X.stack _ _ ⟨Xg (s.heap.objs.size+1)::us,[]⟩ (Xg (s.heap.objs.size+1)::(us++ds)) _ _ E (hr.make C us [])
  (I2.Ht.make C us []) (hb _ (Xg (s.heap.objs.size+1)::us) I2.vY hl) r2 hq) fun r s' hq'=>?_))
 cases r with
 | error e=>exact hx pins σ _ _ e s' I2 hq'
 | ok fl =>
  cases fl with
  | ret u =>
   obtain⟨v,H',I3,rv,ev,q3⟩:=I2.after hq'
   subst ev
   exact⟨rv,⟨V.ref (s.heap.objs.size+1),H',I3,rfl,q3⟩⟩
  | next=>exact XG hq'
  | brk=>exact XG hq'
  | cont=>exact XG hq'
theorem EG (M:Mk X.K C f) (F:aU X.prog X.w X.K X.mg X.base CX k f fd ps sp) (hr:cS (k+1) X.A) (hg:Gl X x) (hm:X.mg x=some (.ref C)) (hb:Binds X.K fd ps ds) (hd:Vals km ds) (hx:Passes CX X E)
  (ha:PA X (e::es) t) (rb:(x == ("__debug__":Str))=false:=by decide) (he:starEach (e::es) X.env=(false,eval e X.env)::starEach es X.env:=by rfl) (hpl:(backTo pos (starEach es X.env)).any (·.1)=false:=by rfl) :
  PE X (.Call (.Name x p) (e::es) [] pos) (Gr C sp km E t):=by
 intro pins s σ H Q I h
 refine wpAny_Call_Name_kw (jK I hg hm ?_ rb)
 refine YH (h₀:=X.base) I.ok.mod.Gk M.kp (thn (ha pos pins s σ H _ I h) fun us s1 ⟨vs,H1,I1,r,q⟩=>⟨I1.vY,?_⟩) he hpl
 exact CB M F hr hb hd hx I1 r q
end
section
variable {X:Cx} {CX:A1} {k:Nat} {f C:WA} {fd:Xk} {ps ks:List Str} {sp:Sp} {E:XK} {x m:Str} {p pos apos S8:Pos} {e o:Expr} {es:List Expr} {VS:List Keyword} {te ta:TE} {t tk:TA} {nm:Option Str}
variable {g:List Wr→List Wr→List Wr} {gV:List V→List V→List V}
end
structure aC (N P:List Str) (sc:Scope):Prop where
 kind:sc.kind=.function
 co:sc.isCoroutine=false
 gen:sc.isGenerator=false
 nd:N.Nodup
 pre:N.take P.length=P
 par:∀x∈P,sc.names.lookup x=some .local∨sc.names.lookup x=some .cell
 Hu:∀y∈sc.names,y.2≠.free
theorem sD {kindOf:Str→Option NameKind} {x:Str}:∀{binds:List (Str × Wr)} {m:Str→Option Wr},(∀v,(x,v)∉binds)→bindL kindOf binds m x=m x
 | [],_,_=>rfl
 | (n,v)::r,m,h=>by
  unfold bindL
  rw [sD fun w hw=>h w (Ww _ hw)]
  split
  ·have:x≠n:=by rintro rfl;exact h v WY
   simp [this]
  ·rfl
theorem sE {kindOf:Str→Option NameKind} {x:Str}:∀{binds:List (Str × Wr)} {m:Str→Option Wr},(∀v,(x,v)∉binds)→bindC kindOf binds m x=m x
 | [],_,_=>rfl
 | (n,v)::r,m,h=>by
  unfold bindC
  rw [sE fun w hw=>h w (Ww _ hw)]
  split
  ·rfl
  ·have:x≠n:=by rintro rfl;exact h v WY
   simp [this]
theorem sF {kindOf:Str→Option NameKind} {x:Str} {v:Wr}:∀{P:List Str} {vs:List Wr} {i:Nat} {m:Str→Option Wr},P.Nodup→P[i]?=some x→vs[i]?=some v→kindOf x=some .local →
  bindL kindOf (P.zip vs) m x=some v
 | [],_,_,_,_,h,_,_=>by simp at h
 | _::_,[],_,_,_,_,h,_=>by simp at h
 | p::P,w::vs,0,m,nd,h1,h2,hk=>by
  simp at h1 h2;subst h1;subst h2
  show bindL kindOf ((p,w)::P.zip vs) m p=_
  unfold bindL
  rw [sD fun v hv=>(YI.mp nd).1 (Z3 hv).1,if_pos hk]
  simp
 | p::P,w::vs,i+1,m,nd,h1,h2,hk=>by
  show bindL kindOf ((p,w)::P.zip vs) m x=_
  unfold bindL
  exact sF (i:=i) (YI.mp nd).2 (by simpa using h1) (by simpa using h2) hk
theorem sG {kindOf:Str→Option NameKind} {x:Str} {v:Wr}:∀{P:List Str} {vs:List Wr} {i:Nat} {m:Str→Option Wr},P.Nodup→P[i]?=some x→vs[i]?=some v→kindOf x≠some .local →
  bindC kindOf (P.zip vs) m x=some v
 | [],_,_,_,_,h,_,_=>by simp at h
 | _::_,[],_,_,_,_,h,_=>by simp at h
 | p::P,w::vs,0,m,nd,h1,h2,hk=>by
  simp at h1 h2;subst h1;subst h2
  show bindC kindOf ((p,w)::P.zip vs) m p=_
  unfold bindC
  rw [sE fun v hv=>(YI.mp nd).1 (Z3 hv).1,if_neg hk]
  simp
 | p::P,w::vs,i+1,m,nd,h1,h2,hk=>by
  show bindC kindOf ((p,w)::P.zip vs) m x=_
  unfold bindC
  exact sG (i:=i) (YI.mp nd).2 (by simpa using h1) (by simpa using h2) hk
def start (N:List Str) (vs:List V):St:=vs.map some++List.replicate (N.length - vs.length) none
def yu (CX:A1) (P:WM) (w:Xj) (K:Wo) (mg:Str→Option Wr) (base:Heap) (N:List Str) (qual:Str) (scope:Scope) (f:WA) (cd:Wr) (A:Xf) (outer:List Env) (s:Ws) (H:Hp) (E:XK):Cx where
 prog:=P
 w:=w
 K:=K
 mg:=mg
 base:=base
 A:=A.deeper (envOfC qual scope s.heap.objs.size f cd)
 N:=N
 s₀:=s
 H₀:=H
 env:=envOfC qual scope s.heap.objs.size f cd
 outer:=outer
 stack:=envOfC qual scope s.heap.objs.size f cd::outer
 ex:=[]
 calm:=true
 fn:=fun _=>true
 pn:=[]
 xe:=fun e s'=>W7 (model P w) (A.deeper (envOfC qual scope s.heap.objs.size f cd)) (leaving (envOfC qual scope s.heap.objs.size f cd) e) (fun _ CC=>CX outer H s E e CC) (fun e' CC=>CX outer H s E e' CC) s'
theorem wt {sc:Scope} {n:Nat} {x:Str} (h:sc.names.lookup x=some .cell):∃c,(cellsFrom n sc.names []).lookup x=some c:=by
 have q:=ZR sc.names n [] (.inl h)
 exact XU.mp q
theorem A2 {CX:A1} {P:WM} {w:Xj} {K:Wo} {mg:Str→Option Wr} {base:Heap} {N ps:List Str} {qual:Str} {scope:Scope} {f:WA} {cd:Wr} {A:Xf} {outer:List Env} {s s1:Ws} {H:Hp} {E:XK} {us:List Wr} {vs:List V}
  (S:aC N ps scope) (hd:A.handled=none) (e0:yr P w K mg base A outer s H) (hl:vs.length=ps.length) (r:Vals vs us)
  (x:InCallC s s.heap.objs.size (bindL (envOfC qual scope s.heap.objs.size f cd).kindOf (ps.zip us) fun _=>none) (cellsFrom (s.heap.objs.size+1) scope.names []) (bindC (envOfC qual scope s.heap.objs.size f cd).kindOf (ps.zip us) fun _=>none) s1) :
  Inv (yu CX P w K mg base N qual scope f cd A outer s H E) [] (start N vs) H s1:=by
 have hpl:ps.length≤N.length:=by have:=congrArg XF S.pre;rw [WV] at this;omega
 obtain⟨h1,tk,rfl,hk⟩:=x.done
 have Kj:∀b:WA,b∉(yu CX P w K mg base N qual scope f cd A outer s H E).ex:=fun b z=>absurd (show b∈([]:List WA) from z) (by simp)
 refine⟨⟨e0.mod,S.kind,rfl,rfl,Wz _,fun y z c h1 h2=>?_,fun y hy=>?_,fun y c _ h=>?_,fun _=>hd,Around.frames_deeper e0.frames,.inr ⟨rfl,rfl⟩,fun b z=>absurd z (Kj b),e0.bs,e0.Ep,fun b _ _=>Kj b,fun b z=>absurd z (Kj b),e0.ly,e0.Gm⟩,
  rfl,e0.bare,Un.kept hk,⟨_,x.toInCall.ns,fun i y v h1 h2 h3=>?_⟩,fun y c h=>⟨_,x.cell y c h⟩,e0.hok.fresh (Wz _),fun y c h=>?_,fun p hp=>absurd (show p∈([]:List (WA × Obj)) from hp) (by simp),e0.hok.kept hk,?_⟩
 ·exact name_of_addr x.apart (Xt h1) (Xt h2)
 ·have hy:scope.names.lookup y=some .cell∨scope.names.lookup y=some .free:=hy
  rcases hy with hy|hy
  ·exact wt hy
  ·exact absurd rfl (S.Hu _ (Xt hy))
 ·exact Z0 (x.above y c (Xt h))
 ·have hi:i<vs.length:=by
   unfold start at h2
   by_cases hi:i<vs.length
   ·exact hi
   ·rw [Yv (by simpa using hi)] at h2
    rw [List.getElem?_replicate] at h2
    split at h2 <;> cases h2
  have ha:vs[i]?=some v:=by
   unfold start at h2
   rw [List.getElem?_append_left (by simpa using hi),WX] at h2
   cases e:vs[i]? with
   | none=>rw [e] at h2;cases h2
   | some a=>rw [e] at h2;cases h2;rfl
  obtain⟨u,hu,rv⟩:=r.get ha
  have hp:ps[i]?=some y:=by
   rw [← S.pre,List.getElem?_take_of_lt (by omega)];exact h1
  have Q3:ps.Nodup:=by rw [← S.pre];exact S.nd.sublist (List.take_sublist _ _)
  refine⟨u,rv,?_⟩
  rcases S.par y (Xy hp) with k|k
  ·exact .inl ⟨k,sF Q3 hp hu k⟩
  ·obtain⟨c,e⟩:=wt (n:=s.heap.objs.size+1) k
   refine .inr ⟨.inl k,c,e,?_⟩
   have q:=x.cell y c e
   rw [sG Q3 hp hu (by show scope.names.lookup y≠_;rw [k];decide)] at q
   exact q
 ·exact e0.hok.fresh (Z0 (x.above y c (Xt h)))
 ·unfold start
  show _=N.length
  rw [Wq,Lm9,List.length_replicate]
  omega
theorem Gs {CX:A1} {P:WM} {w:Xj} {K:Wo} {mg:Str→Option Wr} {base:Heap} {k:Nat} {f:WA} {name qual:Str} {params:Arguments} {body:List Stmt} {scope:Scope} {dV kV doc pm cE ct oc:Wr} {an od:Option WA}
  {EH:Array (Option Wr)} {N ps:List Str} {sp:Sp} (lk:K.lookup f=some ⟨oc,od,.func (Yg name qual params body scope dV kV doc pm an cE ct),EH⟩) (hcd:Zt K cE qual=true) (S:aC N ps scope)
  (len:∀vs H Q E,sp vs H Q E→vs.length=ps.length)
  (wu:∀(A:Xf) (outer:List Env) (s:Ws) (H:Hp) (vs:List V) (Q:VK) (E:XK),cS k (A.deeper (envOfC qual scope s.heap.objs.size f cE))→sp vs H Q E →
   ∃t,we (yu CX P w K mg base N qual scope f cE A outer s H E) body t∧t { nx:=fun _ H'=>Q .bG H',rt:=Q } (start N vs) H) :
  aU P w K mg base CX (k+1) f (Yg name qual params body scope dV kV doc pm an cE ct) ps sp:=by
 refine⟨len,fun A outer s H args us vs Q E hr e0 hb r Et=>?_⟩
 have hl:=len _ _ _ _ Et
 have KX:K.In s.heap:=e0.mod.Gk.keeps fun b o e=>(e0.bs b o e).1
 have lim:s.heap.NoLimit:=e0.mod.nolimit.keeps fun b o e=>(e0.bs b o e).1
 have hkind:∀y∈ps.zip us,scope.names.lookup y.1=some .local∨(scope.names.lookup y.1=some .cell∧((cellsFrom (s.heap.objs.size+1) scope.names []).lookup y.1).isSome=true):=fun⟨n,v⟩ hy=>by
  rcases S.par n (Z3 hy).1 with q|q
  ·exact .inl q
  ·exact .inr ⟨q,ZR _ _ _ (.inl q)⟩
 refine codeAny_call_function hr.depth (KX _ _ lk) rfl S.co S.gen rfl (PySem.W.codeRec_of KX hcd) (hb _ _ _ _ ?_)
 refine wpAny_newFunctionEnv_cells S.kind hkind fun env he s1 x=>?_
 subst he
 refine⟨lim.keeps x.toInCall.keep,codeAny_func ?_⟩
 obtain⟨t,ht,hq⟩:=wu A outer s H vs Q E (hr.deeper _) Et
 have I:Inv (yu CX P w K mg base N qual scope f cE A outer s H E) [] (start N vs) H s1:=A2 S hr.hd e0 hl r x
 refine wpAny_mono (ht [] s1 (start N vs) H _ I hq) (fun fl s' hs=>?_) fun e s' hs=>hs
 have fin:∀{σ':St} {H':Hp} {v:V} {u:Wr},Inv (yu CX P w K mg base N qual scope f cE A outer s H E) [] σ' H' s'→RelV v u→Q v H'→CE outer P w H s Q u s' :=
  fun {σ' H' v u} J rv q=>⟨v,H',J.os,J.bare,J.base,J.hok,rv,q⟩
 cases fl with
 | ret u =>
  obtain⟨v,σ',H',J,rv,q⟩:=hs
  exact fin J rv q
 | next =>
  obtain⟨σ',H',J,q⟩:=hs
  exact fin (v:=V.bG) (u:=Zv) J rfl q
 | brk =>
  obtain⟨_,_,_,q⟩:=hs
  exact XG q
 | cont =>
  obtain⟨_,_,_,q⟩:=hs
  exact XG q
end L2
namespace L2
open PySem PySem.Spec PyProof.Rows
section
variable {X:Cx} {x:Str} {p pos:Pos} {e:Expr} {es:List Expr} {t:TA} {id T:String} {r:List V→Hp→VK→Prop}
def Q4 (r:List V→Hp→VK→Prop) (t:TA):TE:=fun σ H Q=>t σ H fun vs H1=>r vs H1 Q
theorem aJ (hc:dZ X (.builtin id) r) (hg:Gl X x) (hm:X.mg x=none) (hv:bootBuiltins x=some (.builtin id)) (ha:PA X (e::es) t) (hn:x≠"__name__":=by decide) (rb:(x == ("__debug__":Str))=false:=by decide)
  (he:starEach (e::es) X.env=(false,eval e X.env)::starEach es X.env:=by rfl) (hpl:(backTo pos (starEach es X.env)).any (·.1)=false:=by rfl):PE X (.Call (.Name x p) (e::es) [] pos) (Q4 r t):=by
 intro pins s σ H Q I h
 refine wpAny_Call_Name_kw (tV I hg hm hv ?_ hn rb)
 exact PyProof.Rows.callWith_builtin1 (thn (ha pos pins s σ H _ I h) fun us s1 ⟨vs,H1,I1,r1,q1⟩=>hc pins s1 σ H1 vs us Q I1 r1 q1) he hpl
theorem gw (hc:dZ X (.type T) r) (hg:Gl X x) (hm:X.mg x=none) (hv:bootBuiltins x=some (.type T)) (ha:PA X (e::es) t) (hn:x≠"__name__":=by decide) (rb:(x == ("__debug__":Str))=false:=by decide)
  (he:starEach (e::es) X.env=(false,eval e X.env)::starEach es X.env:=by rfl) (hpl:(backTo pos (starEach es X.env)).any (·.1)=false:=by rfl):PE X (.Call (.Name x p) (e::es) [] pos) (Q4 r t):=by
 intro pins s σ H Q I h
 refine wpAny_Call_Name_kw (tV I hg hm hv ?_ hn rb)
 exact Y9 (thn (ha pos pins s σ H _ I h) fun us s1 ⟨vs,H1,I1,r1,q1⟩=>hc pins s1 σ H1 vs us Q I1 r1 q1) he hpl
end
end L2
namespace HT
open PySem PyProof.Rows
section
open PySem.SeqAt
open PySem.AutoSeq1 (wpAny_loadPart')
open PySem.MeetsSeq PySem.MeetsSeq2 PySem.MeetsSeq3
end
section
variable {prog:WM} {w:Xj} {A:Xf} {E:Wr→Ws→Prop} {s:Ws}
def cW (n d:Nat):Option Int→Nat
 | none=>d
 | some v=>if v<0 then (v+(n:Int)).toNat else min v.toNat n
theorem CD (n d:Nat):cW n d none=d:=rfl
theorem zR (n d k:Nat):cW n d (some (k:Int))=min k n:=by
 show(if (k:Int)<0 then ((k:Int)+(n:Int)).toNat else min (k:Int).toNat n)=min k n
 rw [if_neg (by omega),Int.toNat_natCast]
theorem Hv (n d:Nat) (hd:d≤n) (o:Option Int):cW n d o≤n:=by
 cases o with
 | none=>exact hd
 | some v =>
  show(if v<0 then (v+(n:Int)).toNat else min v.toNat n)≤n
  by_cases hv:v<0
  ·rw [if_pos hv];omega
  ·rw [if_neg hv];exact Nat.min_le_right _ _
theorem zS (v:Int) (n d:Nat):(if v<0 then max (v+(n:Int)) 0 else min v (n:Int))=((cW n d (some v):Nat):Int):=by
 show(if v<0 then max (v+(n:Int)) 0 else min v (n:Int))=(((if v<0 then (v+(n:Int)).toNat else min v.toNat n):Nat):Int)
 by_cases hv:v<0
 ·simp only [if_pos hv];omega
 ·simp only [if_neg hv];omega
theorem yw (lo hi:Option Int) (n:Nat):Yy lo hi 1 (n:Int)=(((cW n 0 lo:Nat):Int),((cW n n hi:Nat):Int)):=by
 have h1:¬ ((1:Int)<0):=by omega
 unfold Yy
 simp only [h1,if_false]
 refine Prod.ext ?_ ?_
 ·cases lo with
  | none=>rfl
  | some v=>exact zS v n 0
 ·cases hi with
  | none=>rfl
  | some v=>exact zS v n n
theorem yx (i j:Nat):X9 (i:Int) (j:Int) 1=j - i:=by
 unfold X9
 have h1:(1:Int) > 0:=by omega
 simp only [h1,if_true,Int.ediv_one]
 split <;> omega
theorem pC {v:Wr} {o:Option Int} {Q:Option Int→Ws→Prop} (p:IsPart v o) (h:Q o s):W7 (model prog w) A (Builtin.Slice.slicePartIndex v) Q E s:=by
 cases p with
 | none=>exact slicePart_none h
 | int i t=>exact slicePart_int h
theorem gx {sl:WA} {vl vu:Wr} {lo hi:Option Int} {n:Nat} {Q:Int × Int × Nat→Ws→Prop} (hs:s.heap.IsSliceOf sl vl vu .none) (pl:IsPart vl lo) (pu:IsPart vu hi)
  (h:Q (((cW n 0 lo:Nat):Int),1,cW n n hi - cW n 0 lo) s):W7 (model prog w) A (Zg (.ref sl) (pure (n:Int))) Q E s:=by
 obtain⟨os,A3,Jt,Kk⟩:=id hs
 unfold Zg Builtin.Slice.sliceFields
 refine Wu (Wu (wpAny_field A3 Kk (x:=vl) rfl (Wu (wpAny_field A3 Kk (x:=vu) rfl (Wu (wpAny_field A3 Kk (x:=.none) rfl (WI ?_)))))))
 refine Wu (slicePart_none ?_)
 show W7 _ _ (if ((1:Int) == 0)=true then _ else _) _ _ s
 rw [if_neg (by decide)]
 refine Wu (pC pl (Wu (pC pu (Wu (WI ?_)))))
 show W7 _ _ (match Yy lo hi 1 (n:Int) with|(lo,hi)=>pure (lo,(1:Int),X9 lo hi 1)) _ _ s
 rw [yw lo hi n]
 show W7 _ _ (pure (((cW n 0 lo:Nat):Int),(1:Int),X9 ((cW n 0 lo:Nat):Int) ((cW n n hi:Nat):Int) 1)) _ _ s
 rw [yx]
 exact WI h
theorem CF (xs:Array Wr) (i k:Nat):((X0 k).filterMap fun(m:Nat)=>xs[((i:Int)+(m:Int) * 1).toNat]?).toArray=((xs.toList.drop i).take k).toArray:=by
 have e:(fun(m:Nat)=>xs[((i:Int)+(m:Int) * 1).toNat]?)=fun m=>xs[i+m]?:=by
  funext m
  have:((i:Int)+(m:Int) * 1).toNat=i+m:=by omega
  rw [this]
 rw [e]
 have:=pick_run xs i k
 rw [List.filterMap_map] at this
 have e2:((fun x=>xs[x]?) ∘ fun x=>i+x)=fun m=>xs[i+m]?:=rfl
 rw [e2] at this
 rw [this]
theorem lB {t sl:WA} {items:Array Wr} {vl vu:Wr} {lo hi:Option Int} {Q:Wr→Ws→Prop} (ht:IsTup s.heap t items) (hs:s.heap.IsSliceOf sl vl vu .none) (pl:IsPart vl lo) (pu:IsPart vu hi)
  (hw:¬ (cW items.size 0 lo=0∧cW items.size items.size hi=items.size))
  (h:Q (.ref s.heap.objs.size) { s with heap:=s.heap.push { cls:=.type "tuple",data:=.seq ((items.toList.drop (cW items.size 0 lo)).take (cW items.size items.size hi - cW items.size 0 lo)).toArray } })
  (hsz:items.size≤Wt):W7 (model prog w) A (getItem (.ref t) (.ref sl)) Q E s:=by
 have zT:sizeOk (.seq ((items.toList.drop (cW items.size 0 lo)).take (cW items.size items.size hi - cW items.size 0 lo)).toArray):=by
  show((items.toList.drop (cW items.size 0 lo)).take (cW items.size items.size hi - cW items.size 0 lo)).toArray.size≤Wt
  rw [WJ,WV,Xc,YB]
  omega
 have hj:cW items.size items.size hi≤items.size:=Hv _ _ (Wz _) hi
 obtain⟨os,A3,Jt,Kk⟩:=id hs
 have N4:s.TypeIs (.ref sl) "slice":=⟨os,A3,Jt⟩
 unfold getItem
 try with_reducible refine wpAny_holding ?_
 first|refine Wu (WI ?_)|skip
 refine Wu (wpAny_sequenceKey ht.typeIs (by decide) ?_)
 refine Wu (wpAny_callSpecial?_slot (name:=Wn "__getitem__") ht.typeIs Xm
  (wpAny_call_entry Xm ht.typeIs entry_tuple_getitem ?_ (args_tuple_getitem _ _)))
 show W7 _ _ (Zh (.ref t) >>= _) _ _ s
 refine Wu (tupleItemsOf_ ht ?_)
 refine Wu (wpAny_typeOf N4 ?_)
 rw [if_pos (by decide)]
 refine Wu (gx hs pl pu ?_)
 have cy:¬ ((((cW items.size 0 lo:Nat):Int) == 0 && (1:Int) == 1 && (cW items.size items.size hi - cW items.size 0 lo) == items.size)=true):=by
  intro q
  rw [WG,WG] at q
  have q1:((cW items.size 0 lo:Nat):Int)=0:=eq_of_beq q.1.1
  have q2:cW items.size items.size hi - cW items.size 0 lo=items.size:=eq_of_beq q.2
  exact hw ⟨by omega,by omega⟩
 show W7 _ _ (if (((cW items.size 0 lo:Nat):Int) == 0 && (1:Int) == 1 && (cW items.size items.size hi - cW items.size 0 lo) == items.size)=true then _ else _) _ _ s
 rw [if_neg cy,CF]
 first
  | exact Wu (m:=Yc _) (wpAny_newObj_type (WI ⟨_,rfl,WI h⟩) zT)
  | exact Wu (m:=Yc _) (wpAny_newObj_type (Wu (WI (WI ⟨_,rfl,WI h⟩))) zT)
  | exact Wu (Wu (m:=Yc _) (wpAny_newObj_type (WI (WI ⟨_,rfl,WI h⟩)) zT))
  | exact Wu (Wu (m:=Yc _) (wpAny_newObj_type (WI ⟨_,rfl,WI h⟩) zT))
end
end HT
namespace L2
open PySem PySem.Spec PyProof.Rows
abbrev TO:=St→Hp→(Option Int→Hp→Prop)→Prop
def PO (X:Cx) (e:Option Expr) (t:TO):Prop :=
 ∀(pins:List (WA × Obj)) (s:Ws) (σ:St) (H:Hp) (Q:Option Int→Hp→Prop),Inv X pins σ H s→t σ H Q →
  W7 (model X.prog X.w) X.A (evalPart e X.env) (fun u s'=>∃o H',Inv X pins σ H' s'∧IsPart u o∧Q o H') X.xe s
def EI:TO:=fun _ H Q=>Q none H
def Kl (t:TE):TO:=fun σ H Q=>t σ H fun x H1=>∃i,x=.int i∧Q (some i) H1
section
variable {X:Cx} {e:Expr} {te:TE} {lo hi:Option Expr} {tl th:TO} {pos p2:Pos}
theorem dW:PO X none EI:=by
 intro pins s σ H Q I h
 rw [evalPart_none]
 exact WI ⟨none,H,I,.none,h⟩
theorem cb (h:PE X e te):PO X (some e) (Kl te):=by
 intro pins s σ H Q I hw
 rw [evalPart_some]
 refine thn (h pins s σ H _ I hw) fun u s1 ⟨x,H1,I1,r1,q1⟩=>?_
 obtain⟨i,rfl,q⟩:=q1
 obtain⟨t,rfl⟩:=r1
 exact⟨some i,H1,I1,.int i t,q⟩
def Km (X:Cx) (r:V→Option Int→Option Int→Hp→VK→Prop):Prop :=
 ∀(pins:List (WA × Obj)) (s:Ws) (σ:St) (H:Hp) (x:V) (v vl vu:Wr) (lo hi:Option Int) (sl:WA) (Q:VK),Inv X pins σ H s→RelV x v→s.heap.IsSliceOf sl vl vu .none→IsPart vl lo→IsPart vu hi→r x lo hi H Q →
  ∃T id,typeLookup (.type T) "__getitem__"=pure (some (.builtin id))∧s.TypeIs v T∧W7 (model X.prog X.w) X.A (getItem v (.ref sl)) (EP X pins σ Q) X.xe s
def S9 (r:V→Option Int→Option Int→Hp→VK→Prop) (te:TE) (tl th:TO):TE:=fun σ H Q=>te σ H fun x H1=>tl σ H1 fun l H2=>th σ H2 fun u H3=>r x l u H3 Q
theorem cg {r:V→Option Int→Option Int→Hp→VK→Prop} (hr:Km X r) (he:PE X e te) (hl:PO X lo tl) (hu:PO X hi th):PE X (.Subscript e (.Slice lo hi none p2) pos) (S9 r te tl th):=by
 intro pins s σ H Q I h
 refine Subscript_ (thn (he pins s σ H _ I h) fun v s1 ⟨x,H1,I1,r1,q1⟩=>?_)
 refine wpAny_Slice (thn (hl pins s1 σ H1 _ I1 q1) fun vl s2 ⟨l,H2,I2,pl,q2⟩=>thn (hu pins s2 σ H2 _ I2 q2) fun vu s3 ⟨u,H3,I3,pu,q3⟩=>?_)
 rw [evalPart_none]
 refine WI ?_
 have I4:Inv X pins σ H3 { s3 with heap:=s3.heap.push { cls:=.type "slice",data:=.fields #[vl,vu,.none] } }:=I3.kept (t':=s3.toks) fun b ob q=>Wx _ q
 obtain⟨T,id,hT,ht,hg⟩:=hr pins { s3 with heap:=s3.heap.push { cls:=.type "slice",data:=.fields #[vl,vu,.none] } } σ H3 x v vl vu l u s3.heap.objs.size Q I4 r1 (Heap.IsSliceOf.new ..) pl pu q3
 show W7 (model X.prog X.w) X.A (subscriptTail e (.Slice lo hi none p2) v (.ref s3.heap.objs.size)) (EP X pins σ Q) X.xe { s3 with heap:=s3.heap.push { cls:=.type "slice",data:=.fields #[vl,vu,.none] } }
 exact tail_any (ops:=[.ref s3.heap.objs.size,v]) ht hT hg (by with_unfolding_all rfl)
def gU (xs:List V) (lo hi:Option Int):List V:=(xs.drop (HT.cW xs.length 0 lo)).take (HT.cW xs.length xs.length hi - HT.cW xs.length 0 lo)
theorem nH (xs:List V) (lo hi:Option Int):(gU xs lo hi).length≤xs.length:=by
 unfold gU
 rw [WV,Xc]
 omega
def N5 (K:Wo):V→Option Int→Option Int→Hp→VK→Prop:=fun x lo hi H Q=>∃a xs,x=.ref a∧da K H a xs ∧
 ¬ (HT.cW xs.length 0 lo=0∧HT.cW xs.length xs.length hi=xs.length)∧∀p,H p=none→Q (.ref p) (upd H p (.tup (gU xs lo hi)))
theorem Hw:Km X (N5 X.K):=by
 intro pins s σ H x v vl vu lo hi sl Q I rx hs pl pu h
 obtain⟨a,xs,rfl,hx,hw,q⟩:=h
 cases rx
 obtain⟨its,r,ht,hz⟩:=I.tuple hx
 have hlen:its.toArray.size=xs.length:=by rw [WJ];exact r.length.symm
 refine⟨"tuple",_,Xm.lookup,ht.typeIs,?_⟩
 refine HT.lB ht hs pl pu (by rw [hlen];exact hw) ?_ (by rw [hlen];exact hz)
 rw [hlen]
 refine⟨.ref s.heap.objs.size,_,I.laid (t':=s.toks) (o:=.tup (gU xs lo hi)) (fun b ob q=>Wx _ q) (Wz _) ?_,rfl,q _ (I.hok.fresh (Wz _))⟩
 exact⟨W5 (nH xs lo hi) hz,_,(r.drop (HT.cW xs.length 0 lo)).take (HT.cW xs.length xs.length hi - HT.cW xs.length 0 lo),IsTup.new _ _⟩
end
end L2
namespace L2
open PySem PySem.Spec PyProof.Rows
def Gu (n:Nat) (i:Int):Option Nat:=if 0≤i then (if i<n then some i.toNat else none) else if -(n:Int)≤i then some (i+n).toNat else none
def wx {α:Type} (xs:List α) (i:Int):Option α:=(Gu xs.length i).bind fun j=>xs[j]?
theorem EJ {n:Nat} {i:Int} {j:Nat} (h:Gu n i=some j):seqIndex? i n=some j∧j<n∧-(n:Int)≤i∧i<n:=by
 unfold Gu at h
 by_cases h0:0≤i
 ·rw [if_pos h0] at h
  by_cases h1:i<n
  ·rw [if_pos h1] at h
   have e:i.toNat=j:=Xe h
   exact⟨by rw [seqIndex_of h0 h1,e],by omega,by omega,h1⟩
  ·rw [if_neg h1] at h;cases h
 ·rw [if_neg h0] at h
  by_cases h1:-(n:Int)≤i
  ·rw [if_pos h1] at h
   have e:(i+n).toNat=j:=Xe h
   exact⟨by rw [seqIndex_neg (by omega) h1,e],by omega,h1,by omega⟩
  ·rw [if_neg h1] at h;cases h
theorem t9 {α:Type} {xs:List α} {i:Int} {v:α} (h:wx xs i=some v):∃j,seqIndex? i xs.length=some j∧xs[j]?=some v∧j<xs.length∧-(xs.length:Int)≤i∧i<xs.length:=by
 unfold wx at h
 cases e:Gu xs.length i with
 | none=>rw [e] at h;cases h
 | some j =>
  rw [e] at h
  obtain⟨h1,h2,h3,h4⟩:=EJ e
  exact⟨j,h1,h,h2,h3,h4⟩
theorem bT {α:Type} {xs:List α} {j:Nat} {v:α} (h:xs[j]?=some v):wx xs (j:Int)=some v:=by
 have hj:j<xs.length:=(Wv.mp h).1
 have e:Gu xs.length (j:Int)=some j:=by
  unfold Gu
  rw [if_pos (by omega),if_pos (by omega)];simp
 unfold wx;rw [e];exact h
def EK (b:Expr):Prop:=∀o i,subscripted b false o i=operate [o,i] (getItem o i)
def MU (X:Cx) (r:R2):Prop :=
 ∀(value slice:Expr) (pins:List (WA × Obj)) (s:Ws) (σ:St) (H:Hp) (x y:V) (v u:Wr) (Q:VK),Inv X pins σ H s→RelV x v→RelV y u→r x y H Q →
  subscripted slice false v u=operate [v,u] (getItem v u)→W7 (model X.prog X.w) X.A (subscriptTail value slice v u) (EP X pins σ Q) X.xe s
def Ju (X:Cx) (id:String) (r:V→List V→Hp→VK→Prop):Prop :=
 ∀(pins:List (WA × Obj)) (s:Ws) (σ:St) (H:Hp) (x:V) (xs:List V) (v:Wr) (us:List Wr) (Q:VK),Inv X pins σ H s→RelV x v→Vals xs us→r x xs H Q →
  W7 (model X.prog X.w) X.A (call (.builtin id) (v::us)) (EP X pins σ Q) X.xe s
section
variable {X:Cx} {a b:Expr} {ta tb:TE} {pos:Pos}
theorem aA {r:R2} (hr:MU X r) (ha:PE X a ta) (hb:PE X b tb) (hs:EK b):PE X (.Subscript a b pos) (MS r ta tb):=by
 intro pins s σ H Q I h
 exact Subscript_ (Hm ha hb I h fun v u s2 x y H2 I2 rx ry q=>hr a b pins s2 σ H2 x y v u Q I2 rx ry q (hs _ _))
def N6 (K:Wo):R2:=fun x y H Q=>∃p xs i v,x=.ref p∧y=.int i∧aI K H p xs∧wx xs i=some v∧Q v H
def yy (K:Wo):R2:=fun x y H Q=>∃p xs i v,x=.ref p∧y=.int i∧da K H p xs∧wx xs i=some v∧Q v H
def N7:R2:=fun x y H Q=>∃z i c,x=.str z∧y=.int i∧z.length≤Wt∧wx z.cps.toList i=some c∧Q (.str ⟨#[c]⟩) H
theorem az:MU X (N6 X.K):=by
 intro value slice pins s σ H x y v u Q I rx ry h hs
 obtain⟨p,xs,i,z,rfl,rfl,hq,he,q⟩:=h
 cases rx
 obtain⟨t,rfl⟩:=ry
 obtain⟨its,r,pl,hz⟩:=I.list hq
 obtain⟨j,h1,h2,h3,h4,h5⟩:=t9 he
 obtain⟨w,ew,yz⟩:=r.get h2
 have hl:=r.length
 have hn:=pB
 have fin:EP X pins σ Q w s:=⟨z,H,I,yz,q⟩
 by_cases h0:0≤i
 ·have hj:i.toNat=j:=by
   rw [seqIndex_of h0 h5] at h1
   exact Xe h1
  exact item_listR pl.isList h0 (by omega) (by rw [hj];simpa using ew) fin hs
 ·have hj:(i+(its.toArray.size:Int)).toNat=j:=by
   rw [seqIndex_neg (by omega) h4] at h1
   rw [WJ,← hl]
   exact Xe h1
  exact subscriptTail_builtinR (x:=w) pl.isList.typeIs slot_list_getitem.lookup
   (wpAny_getItem_list_neg (Q:=fun r s'=>r=w∧EP X pins σ Q r s') pl.isList (by omega) (by rw [WJ] <;> omega) (by omega) (by rw [hj];simpa using ew) ⟨rfl,fin⟩) hs
theorem bE:MU X (yy X.K):=by
 intro value slice pins s σ H x y v u Q I rx ry h hs
 obtain⟨p,xs,i,z,rfl,rfl,hq,he,q⟩:=h
 cases rx
 obtain⟨t,rfl⟩:=ry
 obtain⟨its,r,pl,hz⟩:=I.tuple hq
 obtain⟨j,h1,h2,h3,h4,h5⟩:=t9 he
 obtain⟨w,ew,yz⟩:=r.get h2
 have hl:=r.length
 have hn:=pB
 have fin:EP X pins σ Q w s:=⟨z,H,I,yz,q⟩
 exact subscriptTail_builtinR (x:=w) pl.typeIs slot_tuple_getitem.lookup
  (getItem_tuple (j:=j) (Q:=fun r s'=>r=w∧EP X pins σ Q r s') pl (by omega) (by omega) (by rw [WJ,← hl];exact h1) (by simpa using ew) ⟨rfl,fin⟩) hs
theorem fR:MU X N7:=by
 intro value slice pins s σ H x y v u Q I rx ry h hs
 obtain⟨z,i,c,rfl,rfl,hz,he,q⟩:=h
 obtain⟨t,rfl⟩:=rx
 obtain⟨t',rfl⟩:=ry
 obtain⟨j,h1,h2,h3,h4,h5⟩:=t9 he
 have hl:z.cps.toList.length=z.length:=by simp [Str.length]
 rw [hl] at h1 h4 h5
 have hn:=pB
 exact tail_any (typeIs_str s z t) slot_str_getitem.lookup (getItem_str (c:=c) (by
  have e1:decide (i < -(2 ^ 63:Int))=false:=decide_eq_false (by omega)
  have e2:decide (i≥2 ^ 63)=false:=decide_eq_false (by omega)
  rw [e1,e2,Bool.or_false]) (by rw [h1];simpa using h2) ⟨.str ⟨#[c]⟩,H,I.tok _,⟨_,rfl⟩,q⟩) hs
theorem ua (lo hi:Option Int) (n:Nat):(sliceBounds lo hi none n).1=((HT.cW n 0 lo:Nat):Int)∧(sliceBounds lo hi none n).2.1=((HT.cW n n hi:Nat):Int)∧(sliceBounds lo hi none n).2.2=1:=by
 refine⟨?_,?_,rfl⟩
 ·cases lo with
  | none=>simp [sliceBounds,HT.cW]
  | some i =>
   simp only [sliceBounds,HT.cW,Option.getD_none,show(1:Int) > 0 by decide,if_true]
   by_cases h:i<0
   ·simp only [h,if_true] <;> omega
   ·simp only [h,if_false] <;> omega
 ·cases hi with
  | none=>simp [sliceBounds,HT.cW]
  | some i =>
   simp only [sliceBounds,HT.cW,Option.getD_none,show(1:Int) > 0 by decide,if_true]
   by_cases h:i<0
   ·simp only [h,if_true] <;> omega
   ·simp only [h,if_false] <;> omega
theorem rf (its:List Wr) (lo hi:Option Int):slicePick its.toArray lo hi none=((its.drop (HT.cW its.length 0 lo)).take (HT.cW its.length its.length hi - HT.cW its.length 0 lo)).toArray:=by
 obtain⟨h1,h2,h3⟩:=ua lo hi its.toArray.size
 unfold slicePick
 rw [h1,h2,h3]
 simp only [sliceRange_one,pick_run,WJ] <;> rfl
def N8 (K:Wo):V→Option Int→Option Int→Hp→VK→Prop:=fun x lo hi H Q=>∃a xs,x=.ref a∧aI K H a xs∧∀p,H p=none→Q (.ref p) (upd H p (.lst (gU xs lo hi)))
theorem oS:Km X (N8 X.K):=by
 intro pins s σ H x v vl vu lo hi sl Q I rx hs pl pu h
 obtain⟨a,xs,rfl,hx,q⟩:=h
 cases rx
 obtain⟨its,r,ht,hz⟩:=I.list hx
 have hlen:=r.length
 refine⟨"list",_,slot_list_getitem.lookup,ht.isList.typeIs,?_⟩
 refine wpAny_getItem_list_slice ht.isList hs pl pu .none (by simp) ?_ (by rw [WJ] <;> omega)
 rw [rf,← hlen]
 refine⟨.ref s.heap.objs.size,_,I.laid (t':=s.toks) (o:=.lst (gU xs lo hi)) (fun b ob q=>Wx _ q) (Wz _) ?_,rfl,q _ (I.hok.fresh (Wz _))⟩
 exact⟨W5 (nH xs lo hi) hz,_,0,(r.drop (HT.cW xs.length 0 lo)).take (HT.cW xs.length xs.length hi - HT.cW xs.length 0 lo),Xb _ rfl⟩
def gy:V→Bool
 | .bG=>true
 | .bl _=>true
 | .int _=>true
 | .str _=>true
 | _=>false
def Cf:V→V→Bool
 | .bG,.bG=>true
 | .bl a,.bl b=>a == b
 | .bl a,.int b=>(if a then 1 else 0) == b
 | .int a,.bl b=>a == (if b then 1 else 0)
 | .int a,.int b=>a == b
 | .str a,.str b=>a == b
 | _,_=>false
theorem Hx {A:Xf} {s:Ws} {y x:V} {u v:Wr} (ry:RelV y u) (rx:RelV x v) (fy:gy y=true) (fx:gy x=true):aaF A s u v (Cf y x):=by
 cases y with
 | bG =>
  cases ry
  cases x with
  | bG=>cases rx;exact Z4 _
  | bl b=>cases rx;exact aag b
  | int b=>obtain⟨t,rfl⟩:=rx;exact aao b t
  | str b=>obtain⟨t,rfl⟩:=rx;exact aap b t
  | _=>exact absurd (show false=true from fx) WE
 | bl a =>
  cases ry
  cases x with
  | bG=>cases rx;exact aah a
  | bl b=>cases rx;exact aai a b
  | int b=>obtain⟨t,rfl⟩:=rx;exact aaq a b t
  | str b=>obtain⟨t,rfl⟩:=rx;exact aar a b t
  | _=>exact absurd (show false=true from fx) WE
 | int a =>
  obtain⟨t',rfl⟩:=ry
  cases x with
  | bG=>cases rx;exact aas a t'
  | bl b=>cases rx;exact aat a t' b
  | int b=>obtain⟨t,rfl⟩:=rx;exact aay a t' b t
  | str b=>obtain⟨t,rfl⟩:=rx;exact Zj a t' b t
  | _=>exact absurd (show false=true from fx) WE
 | str a =>
  obtain⟨t',rfl⟩:=ry
  cases x with
  | bG=>cases rx;exact aau a t'
  | bl b=>cases rx;exact aav a t' b
  | int b=>obtain⟨t,rfl⟩:=rx;exact Zk a t' b t
  | str b=>obtain⟨t,rfl⟩:=rx;exact aaz a t' b t
  | _=>exact absurd (show false=true from fx) WE
 | _=>exact absurd (show false=true from fy) WE
def yg (x:V) (u:Wr):Bool:=match u with
 | .none=>Cf .bG x
 | .bool b=>Cf (.bl b) x
 | .int i _=>Cf (.int i) x
 | .str z _=>Cf (.str z) x
 | _=>false
theorem ub {x y:V} {u:Wr} (r:RelV y u) (f:gy y=true):yg x u=Cf y x:=by
 cases y with
 | bG=>cases r;rfl
 | bl b=>cases r;rfl
 | int i=>obtain⟨t,rfl⟩:=r;rfl
 | str z=>obtain⟨t,rfl⟩:=r;rfl
 | _=>exact absurd (show false=true from f) WE
theorem lC {x:V}:∀{xs:List V} {us:List Wr},Vals xs us→xs.all gy=true→us.any (yg x)=xs.any fun y=>Cf y x
 | _,_,.nil,_=>rfl
 | y::xs,u::us,.cons r t,f=>by
  rw [XJ,WG] at f
  rw [YJ,YJ,ub r f.1,lC t f.2]
theorem gz {A:Xf} {s:Ws} {x:V} {v:Wr} (rx:RelV x v) (fx:gy x=true):∀{xs:List V} {us:List Wr},Vals xs us→xs.all gy=true→∀u∈us,aaF A s u v (yg x u)
 | _,_,.nil,_=>fun u hu=>by cases hu
 | y::xs,u::us,.cons r t,f=>fun u' hu=>by
  rw [XJ,WG] at f
  rcases WS.mp hu with rfl|hu
  ·rw [ub r f.1];exact Hx r rx f.1 fx
  ·exact gz rx fx t f.2 u' hu
def EL (x:V) (xs:List V):Bool:=xs.any fun y=>Cf y x
def Q5 (K:Wo) (neg:Bool):R2:=fun x y H Q=>∃p xs,y=.ref p∧(aI K H p xs∨da K H p xs)∧gy x=true∧xs.all gy=true∧Q (.bl (if neg then !EL x xs else EL x xs)) H
theorem mD:ow X (compareOp .In) (Q5 X.K false):=by
 intro pins s σ H x y v u Q I rx ry h
 obtain⟨p,xs,rfl,hq,fx,fs,q⟩:=h
 cases ry
 rcases hq with hq|hq
 ·obtain⟨its,r,pl,hz⟩:=I.list hq
  refine SeqAt.in_listAt (yg x) pl.isList (fun w hw=>gz rx fx r fs w (by simpa using hw)) ⟨.bl _,H,I,rfl,?_⟩
  rw [show its.toArray.any (yg x)=its.any (yg x) by simp,lC r fs]
  exact q
 ·obtain⟨its,r,pl,hz⟩:=I.tuple hq
  refine SeqAt.in_tupleAt (yg x) pl (fun w hw=>gz rx fx r fs w (by simpa using hw)) ⟨.bl _,H,I,rfl,?_⟩
  rw [show its.toArray.any (yg x)=its.any (yg x) by simp,lC r fs]
  exact q
theorem dn:ow X (compareOp .NotIn) (Q5 X.K true):=by
 intro pins s σ H x y v u Q I rx ry h
 obtain⟨p,xs,rfl,hq,fx,fs,q⟩:=h
 cases ry
 rcases hq with hq|hq
 ·obtain⟨its,r,pl,hz⟩:=I.list hq
  refine SeqAt.notIn_listAt (yg x) pl.isList (fun w hw=>gz rx fx r fs w (by simpa using hw)) ⟨.bl _,H,I,rfl,?_⟩
  rw [show its.toArray.any (yg x)=its.any (yg x) by simp,lC r fs]
  exact q
 ·obtain⟨its,r,pl,hz⟩:=I.tuple hq
  refine SeqAt.notIn_tupleAt (yg x) pl (fun w hw=>gz rx fx r fs w (by simpa using hw)) ⟨.bl _,H,I,rfl,?_⟩
  rw [show its.toArray.any (yg x)=its.any (yg x) by simp,lC r fs]
  exact q
theorem aD:dZ X (.builtin "len") (fun xs H Q=>∃p ys,xs=[.ref p]∧(aI X.K H p ys∨da X.K H p ys)∧Q (.int ys.length) H):=by
 intro pins s σ H xs us Q I r h
 obtain⟨p,ys,rfl,hq,q⟩:=h
 obtain⟨u,rfl,rx⟩:=vals1 r
 cases rx
 have hn:=pB
 rcases hq with hq|hq
 ·obtain⟨its,r',pl,hz⟩:=I.list hq
  have hlen:=r'.length
  exact Calls.call_len_list pl.isList (by simp only [WJ] <;> omega) ⟨.int ys.length,H,I.tok _,⟨s.toks+1,by rw [WJ,hlen]⟩,q⟩
 ·obtain⟨its,r',pl,hz⟩:=I.tuple hq
  have hlen:=r'.length
  exact len_tuple pl (by simp only [WJ] <;> omega) ⟨.int ys.length,H,I.tok _,⟨s.toks+1,by rw [WJ,hlen]⟩,q⟩
theorem dq:dZ X (.builtin "len") (fun xs H Q=>∃z,xs=[.str z]∧z.length≤Wt∧Q (.int z.length) H):=by
 intro pins s σ H xs us Q I r h
 obtain⟨z,rfl,hz,q⟩:=h
 obtain⟨u,rfl,t,rfl⟩:=vals1 r
 have hn:=pB
 exact len_str (by omega) ⟨.int z.length,H,I.tok _,⟨_,rfl⟩,q⟩
theorem rg:dZ X (.type "tuple") (fun xs H Q=>∃p ys,xs=[.ref p]∧((aI X.K H p ys∧∀l,H l=none→Q (.ref l) (upd H l (.tup ys)))∨(da X.K H p ys∧Q (.ref p) H))):=by
 intro pins s σ H xs us Q I r h
 obtain⟨p,ys,rfl,h⟩:=h
 obtain⟨u,rfl,rx⟩:=vals1 r
 cases rx
 rcases h with⟨hq,q⟩|⟨hq,q⟩
 ·obtain⟨its,r',pl,hz⟩:=I.list hq
  have hlen:=r'.length
  refine call_tuple_list pl.isList (fun h' kp=>?_) (by simp only [WJ] <;> omega)
  have I1:Inv X pins σ H { s with heap:=h' }:=I.kept (t':=s.toks) kp
  have I2:Inv X pins σ (upd H h'.objs.size (.tup ys)) { s with heap:=h'.push { cls:=.type "tuple",data:=.seq its.toArray } } :=
   I1.laid (t':=s.toks) (fun b o e=>Wx _ e) (Wz _) (show cF X.prog X.w _ _ _ (.tup ys) from⟨hz,its,r',IsTup.new _ _⟩)
  exact⟨.ref h'.objs.size,_,I2,rfl,q _ (I1.hok.fresh (Wz _))⟩
 ·obtain⟨its,r',pl,hz⟩:=I.tuple hq
  exact call_tuple_same pl ⟨.ref p,H,I,rfl,q⟩
def Q6 (K:Wo) (T:String) (x:V) (H:Hp):Prop:=match x with
 | .str _=>T="str"
 | .int _=>T="int"
 | .ref p=>(T="list"∧∃xs,aI K H p xs)∨(T="tuple"∧∃o,K.lookup p=some o∧o.cls=.type "tuple"∧o.dict=none) ∨
   (T="dict"∧((∃kvs,H p=some (.dK kvs))∨∃kvs,H p=some (.dT kvs)))∨(T="set"∧∃S n,H p=some (.set S n))
 | _=>False
theorem Hy {pins:List (WA × Obj)} {σ:St} {H:Hp} {s:Ws} {T:String} {x:V} {v:Wr} (I:Inv X pins σ H s) (r:RelV x v) (ty:Q6 X.K T x H) :
  s.TypeIs v T∧∀a,v=.ref a→∃ob,s.heap.get? a=some ob∧ob.dict=none:=by
 cases x with
 | str z =>
  obtain⟨t,rfl⟩:=r
  cases (show T="str" from ty)
  exact⟨typeIs_str s z t,fun _ e=>nomatch e⟩
 | int i =>
  obtain⟨t,rfl⟩:=r
  cases (show T="int" from ty)
  exact⟨typeIs_int s i t,fun _ e=>nomatch e⟩
 | ref p =>
  cases r
  rcases ty with⟨rfl,xs,hq⟩|⟨rfl,o,hk,hc,hd⟩|⟨rfl,hk⟩|⟨rfl,S,n,hk⟩
  ·obtain⟨its,_,pl,_⟩:=I.list hq
   refine⟨pl.isList.typeIs,fun a e=>?_⟩
   cases e
   obtain⟨o,n,e,c,hd,_⟩:=pl
   exact⟨o,e,hd⟩
  ·refine⟨⟨o,I.vY p o hk,hc⟩,fun a e=>?_⟩
   cases e
   exact⟨o,I.vY _ o hk,hd⟩
  ·have z:∃o,s.heap.get? p=some o∧o.ExactDict:=by
    rcases hk with⟨kvs,hk⟩|⟨kvs,hk⟩
    ·obtain⟨_,_,_,_,o,_,_,e,ex,_⟩:=I.hok p _ hk
     exact⟨o,e,ex⟩
    ·obtain⟨_,_,_,_,o,_,_,e,ex,_⟩:=I.hok p _ hk
     exact⟨o,e,ex⟩
   obtain⟨o,e,ex⟩:=z
   refine⟨⟨o,e,ex.1⟩,fun a e2=>?_⟩
   cases e2
   exact⟨o,e,ex.2.1⟩
  ·obtain⟨o,_,_,_,e,ex,_⟩:=I.hok p _ hk
   refine⟨⟨o,e,ex.1⟩,fun a e2=>?_⟩
   cases e2
   exact⟨o,e,ex.2.1⟩
 | _=>exact XG ty
def Ta (K:Wo) (T:String) (r:V→List V→Hp→VK→Prop) (to:TE) (t:TA):TE:=fun σ H Q=>to σ H fun x H1=>Q6 K T x H1∧t σ H1 fun xs H2=>r x xs H2 Q
variable {o e:Expr} {es:List Expr} {to:TE} {t:TA} {name:Str} {apos cpos:Pos} {T id:String} {r:V→List V→Hp→VK→Prop}
theorem dg (pa:PlainAttrs T) (slot:Slot T name id) (Gv:typeOf (.builtin id)=pure (.type "method_descriptor")) (hm:Ju X id r) (ho:PE X o to) (ha:PA X (e::es) t)
  (Kn:attributeBase o name X.env (eval o X.env)=eval o X.env:=by rfl)
  (hfew:((backTo cpos (starEach (e::es) X.env)).all (fun x=>!x.1) && (backToKw cpos (keywordEach [] X.env)).all (fun x=>x.1.isSome)
   && decide ((e::es).length+([]:List Keyword).length+(if ([]:List Keyword).isEmpty then 0 else 1)<30))=true:=by rfl)
  (Ko:(apos.endLine == cpos.line)=true:=by rfl) (hs:starEach (e::es) X.env=(false,eval e X.env)::starEach es X.env:=by rfl) (Hz:(backTo cpos (starEach es X.env)).any (·.1)=false:=by rfl) :
  PE X (.Call (.Attribute o name apos) (e::es) [] cpos) (Ta X.K T r to t):=by
 intro pins s σ H Q I h
 refine wpAny_Call_method_late Kn hfew Ko rfl (thn (ho pins s σ H _ I h) fun v s1 ⟨x,H1,I1,r1,ty,q1⟩=>?_)
 obtain⟨h1,h2⟩:=Hy I1 r1 ty
 refine⟨T,id,pa,slot,Gv,h1,h2,?_⟩
 have hA:=ha cpos pins s1 σ H1 _ I1 q1
 rw [hs] at hA ⊢
 refine ZS (by show(false || (backTo cpos (starEach es X.env)).any (·.1))=false;rw [Hz] <;> rfl) (Y7 ?_)
 exact thn hA fun us s2 ⟨vs,H2,I2,r2,q2⟩=>hm pins s2 σ H2 x vs v us Q I2 r1 r2 q2
end
end L2
namespace L2
open PySem PySem.Spec PyProof.Rows
def Q7 (X:Cx) (id:String) (r:V→List V→Hp→VK→Prop):Prop :=
 ∀(pins:List (WA × Obj)) (s:Ws) (σ:St) (H:Hp) (x:V) (xs:List V) (v:Wr) (us:List Wr) (Q:VK),Inv X pins σ H s→RelV x v→Vals xs us→r x xs H Q →
  W7 (model X.prog X.w) X.A (call (.builtin id) (v::us)) (EP X pins σ Q) X.xe s
theorem Vals.one:∀{x:V} {us:List Wr},Vals [x] us→∃u,us=[u]∧RelV x u
 | _,_,.cons r .nil=>⟨_,rfl,r⟩
theorem Vals.reverse {xs:List V} {us:List Wr} (h:Vals xs us):Vals xs.reverse us.reverse:=by
 induction h with
 | nil=>exact .nil
 | cons r t ih=>rw [List.reverse_cons,List.reverse_cons];exact Vals.append ih (.cons r .nil)
section
variable {X:Cx} {pins:List (WA × Obj)} {σ:St} {H:Hp} {s:Ws} {l b:WA} {xs ys zs:List V}
theorem Inv.HG {its its':List Wr} {n:Nat} {f:Array Wr→Array Wr} {t':Nat} (I:Inv X pins σ H s) (hH:H l=some (.lst xs))
  (e:s.heap.get? l=some { cls:=.type "list",data:=.seq its.toArray n }) (hf:f its.toArray=its'.toArray) (hv:Vals ys its') (hz:ys.length≤Wt) :
  Inv X pins σ (upd H l (.lst ys)) { s with heap:=s.heap.update l (Obj.mapSeq f),toks:=t' }:=by
 have q:=PySem.IsL.update e f
 rw [hf] at q
 refine I.write (x:=l) (e:=l) (by rw [hH];exact trivial) (.inl rfl) (fun b' u hb hu=>(ZT s.heap (Obj.mapSeq f) (Xl hb)).trans hu) ⟨_,q⟩ ?_
 exact⟨hz,its',_,hv,q⟩
theorem Inv.N9 {its:List Wr} {t':Nat} (I:Inv X pins σ H s) (hv:Vals ys its) (hz:ys.length≤Wt) :
  Inv X pins σ (upd H s.heap.objs.size (.lst ys)) { s with heap:=s.heap.push { cls:=.type "list",data:=.seq its.toArray },toks:=t' } :=
 I.laid (fun _ _ q=>Wx _ q) (Wz _) ⟨hz,its,0,hv,Xb _ rfl⟩
theorem Inv.fresh (I:Inv X pins σ H s):H s.heap.objs.size=none:=I.hok.fresh (Wz _)
theorem Inv.A4 (I:Inv X pins σ H s) (hH:H l=some (.lst xs)):xs.length≤Wt∧∃(its:List Wr) (n:Nat),Vals xs its∧xs.length=its.length∧s.heap.get? l=some { cls:=.type "list",data:=.seq its.toArray n }:=by
 obtain⟨z,its,n,r,e⟩:=I.hok l _ hH
 exact⟨z,its,n,r,r.length,e⟩
theorem wy {n:Nat} (h:n≤Wt):XW n=false:=by
 unfold XW
 exact decide_eq_false (by omega)
end
section
variable {X:Cx}
def EM:V→List V→Hp→VK→Prop:=fun x vs H Q=>∃l xs y,x=.ref l∧vs=[y]∧H l=some (.lst xs)∧xs.length<Wt∧Q .bG (upd H l (.lst (xs++[y])))
theorem bz:Q7 X "list.append" EM:=by
 intro pins s σ H x vs v us Q I rx rv h
 obtain⟨l,xs,y,rfl,rfl,hH,hz,q⟩:=h
 cases rx
 obtain⟨u,rfl,ru⟩:=rv.one
 obtain⟨z,its,n,r,hl,e⟩:=I.A4 hH
 refine call_meets W4 ⟨_,e,rfl⟩ F.entry_list_append (F.args_list_append_2 _ _) (PySem.list_append l its.toArray n u (by rw [WJ];omega)) ⟨e,?_⟩
 refine⟨.bG,_,I.HG (its':=its++[u]) hH e (by simp) (r.append (.cons ru .nil)) ?_,rfl,q⟩
 rw [Wq,WL]
 omega
def EN:V→List V→Hp→VK→Prop:=fun x vs H Q=>∃l b xs zs,x=.ref l∧vs=[.ref b]∧H l=some (.lst xs)∧H b=some (.lst zs)∧xs.length+zs.length≤Wt∧Q .bG (upd H l (.lst (xs++zs)))
theorem A5:Q7 X "list.extend" EN:=by
 intro pins s σ H x vs v us Q I rx rv h
 obtain⟨l,b,xs,zs,rfl,rfl,hH,hB,hz,q⟩:=h
 cases rx
 obtain⟨u,rfl,ru⟩:=rv.one
 cases ru
 obtain⟨z,its,n,r,hl,e⟩:=I.A4 hH
 obtain⟨z2,dt,n2,r2,oU,e2⟩:=I.A4 hB
 have hsz:its.toArray.size+dt.toArray.size≤Wt:=by rw [WJ,WJ];omega
 have CG:¬ (!its.toArray.isEmpty && XW (its.toArray.size+dt.toArray.size))=true:=by
  rw [wy hsz,YU]
  exact WE
 refine call_meets XZ ⟨_,e,rfl⟩ ZU (ZG _ _)
  (AutoSeq1.list_extend_list_list_0 l its.toArray n b dt.toArray n2 CG (by rw [WJ];omega) (by omega)) ⟨e,e2,?_⟩
 refine⟨.bG,_,I.HG (its':=its++dt) hH e (by simp) (r.append r2) ?_,rfl,q⟩
 rw [Wq]
 omega
def Oa:R2:=fun x y H Q=>∃l b xs zs,x=.ref l∧y=.ref b∧H l=some (.lst xs)∧H b=some (.lst zs)∧xs.length+zs.length≤Wt∧∀p,H p=none→Q (.ref p) (upd H p (.lst (xs++zs)))
theorem cB:ow X (binaryOp .Add) Oa:=by
 intro pins s σ H x y v u Q I rx ry h
 obtain⟨l,b,xs,zs,rfl,rfl,hH,hB,hz,q⟩:=h
 cases rx
 cases ry
 obtain⟨z,its,n,r,hl,e⟩:=I.A4 hH
 obtain⟨z2,dt,n2,r2,oU,e2⟩:=I.A4 hB
 refine PySem.P.add_list e e2 ?_ (by rw [WJ,WJ];omega)
 have ea:its.toArray++dt.toArray=(its++dt).toArray:=by simp
 rw [ea]
 exact⟨.ref _,_,I.N9 (t':=s.toks) (r.append r2) (by rw [Wq];omega),rfl,q _ I.fresh⟩
end
section
variable {prog:WM} {w:Xj} {A:Xf} {E:Wr→Ws→Prop} {s:Ws}
end
section
variable {X:Cx}
end
end L2
namespace Q8
open PySem PySem.W PySem.Calls PyProof.Rows
theorem oy {P:Params} {h:Heap}:∀(ns:List Int) (vs:List Wr),WellAll P h vs (ns.map WData.int)→IntsAre vs ns:=by
 intro ns
 induction ns with
 | nil =>
  intro vs w
  rw [YY] at w
  cases w
  exact .nil
 | cons n ns ih =>
  intro vs w
  rw [Xd] at w
  cases w with
  | cons a b =>
   cases a
   exact .cons _ _ (ih _ b)
theorem A6 {l:OpenLaw} {n:Nat} (hn:l.most=some n) {P:Params} {h:Heap} {args:List WData} {vals:List Wr}
  (hpre:l.row.toRowW.claim.pre args=true) (hwl:WellAll P h vals args) :
  ∃a vs ns,vals=[Xg a]∧args=[WData.list (ns.map WData.int)]∧h.get? a=some { cls:=.type "list",data:=.seq vs.toArray }∧IntsAre vs ns∧ns.length≤n:=by
 have EO:WShape.hasAll [] args [.list .int]=true:=(pre_splitW hpre).1
 have hc:l.pre.holds [] { args:=args }=true:=(pre_splitW hpre).2
 obtain⟨d,r,rfl,h1,h2⟩:=hasAllW_cons EO
 obtain rfl:=hasAllW_nil h2
 obtain⟨xs,rfl,h3⟩:=hasW_list h1
 obtain⟨ns,rfl⟩:=items_int h3
 have hlen:ns.length≤n:=by
  unfold OpenLaw.pre at hc
  have h4:(WTm.not (.lt (.lit (.int (n:Int))) (.len (.arg 0)))).holds [] { args:=[.list (ns.map .int)] }=true:=by
   have h4:=(holds_andW hc).1
   rw [hn] at h4
   exact h4
  have h5:=condW_of h4 (w_not (w_lt w_lit (w_len_list (w_arg rfl))))
  rw [Lm9] at h5
  refine ZN fun q=>?_
  have q':(n:Int)<((ns.length:Nat):Int):=by omega
  first
   | (rw [decide_eq_true q'] at h5;exact absurd h5 (by decide))
   | (simp at h5;omega)
 cases hwl with
 | cons w1 w2 =>
  cases w2
  cases w1 with
  | list ho hall=>exact⟨_,_,ns,rfl,rfl,ho,oy ns _ hall,hlen⟩
theorem A7 (l:OpenLaw) (args:List WData):l.row.toRowW.claim.post args (.bool true) args=true :=
 postW_of (r:=l.row.toRowW) (X:=(true == true))
  (show WShape.has [] (.bool true) .bool=true by first|rfl|decide|simp [WShape.has,WShape.arms,WShape.armsAll])
  (show(WTm.eq .res (.lit (.bool true))).value [] { args:=args,res:=some (.bool true),after:=args }=some (.bool (true == true)) from w_eq_bool (w_res rfl) w_lit) rfl
theorem wz {l:OpenLaw} {n:Nat} {q:WM} {loose:List Str} {XP:(Str→Option Wr)→Heap→Prop} {YP:Xj→Heap→Prop} {d:DefRec}
  (hn:l.most=some n) (Kq:d.params.defaults=[])
  (call:∀(w:Xj) (s₀ s₁:Ws) (mg mb:Str→Option Wr) (fa:WA) (o:Obj) (pm cd doc:Wr) (a:WA) (vs:List Wr) (ns:List Int),
   Ground q loose [] XP w s₀ mg mb s₁.heap→YP w s₁.heap →
   s₁.heap.get? fa=some o→o.data=.func (docDef d.name d.params d.body d.scope pm cd doc)→s₁.heap.CodeRec cd d.name→mg d.name=some (.ref fa) →
   s₁.heap.get? a=some { cls:=.type "list",data:=.seq vs.toArray }→IntsAre vs ns→ns.length≤n→s₁.gens = #[] →
   codeAny (model l.prog w) callerA (.call (.ref fa) ⟨[.ref a],[]⟩) (fun r s'=>r=.ok (.ret (.bool true))∧OldK s₁.heap s'.heap∧s'.os=s₁.os∧AllBare s'.gens) s₁) :
  WalkO q loose XP YP l.row.toRowW d [] (fun f vs=>PySem.call f vs):=by
 intro w s₀ s₁ mg mb G Y fa o pm cd doc dV kV ho hd hcd hD hmg hg args vals as hpre hlay hrd hwl hlo
 obtain rfl:dV=.none:=Dflts.none hD Kq
 obtain rfl:kV=.none:=Dflts.noKw hD
 obtain⟨a,vs,ns,rfl,rfl,HH,hints,hlen⟩:=A6 hn hpre hwl
 refine enter_call (codeAny_mono (call w s₀ s₁ mg mb fa o pm cd doc a vs ns G Y ho (fd_plain hd) hcd hmg HH hints hlen hg) fun r s' hq=>?_)
 obtain⟨rfl,h2,h3,h4⟩:=hq
 exact⟨.inl ⟨.bool true,.bool true,[],rfl,fun _=>rfl,.bool true,A7 l _,fun _=>⟨List.Pairwise.nil,fun _ hm=>(nomatch hm)⟩⟩,h2,h3,h4⟩
section
variable {prog:WM} {w:Xj} {A:Xf} {E:Wr→Ws→Prop} {s:Ws} {K:Frag}
def ledger (h:Heap) (L d:WA):List (WA × Obj):=(X0 h.objs.size).filterMap fun a=>if a=L∨a=d then none else (h.get? a).map fun o=>(a,o)
end
end Q8
namespace L2
open PySem PySem.Spec PyProof.Rows
theorem sI:∀{vs:List Wr} {ns:List Int},IntsAre vs ns→Vals (ns.map V.int) vs
 | _,_,.nil=>.nil
 | _,_,.cons n t h=>.cons ⟨t,rfl⟩ (sI h)
def HI (H:Hp):Prop:=∀b,H b=none∨∃o xs,H b=some (.oR o (.lst xs))
theorem CH {P:WM} {w:Xj} {K:Wo} {mg mb:Str→Option Wr} {CX:A1} {k:Nat} {fa a:WA} {fd:Xk} {x:Str} {sp:Sp} {s₁:Ws} {vs:List Wr} {ns:List Int}
  (KX:K.In s₁.heap) (Q9:s₁.heap.Ns WN mg) (hb:s₁.heap.Ns builtinsNs mb) (Tb:∀x:Str,x≠"__name__"→mb x=bootBuiltins x) (Ob:s₁.heap.NoLimit) (hg:s₁.gens = #[])
  (ha:s₁.heap.get? a=some { cls:=.type "list",data:=.seq vs.toArray }) (hi:IntsAre vs ns) (hl:ns.length≤Wt) (hr:cS k callerA)
  (F:∀base:Heap,K.In base→base.Ns WN mg→aU P w K mg base CX k fa fd [x] sp) (Kr:∀(s:Ws) (u:Wr),BindsTo s fd ⟨[u],[]⟩ [(x,u)])
  (Et:∀H:Hp,HI H→aI K H a (ns.map V.int)→sp [.ref a] H (fun v _=>v=.bl true) fun _ _ _=>False)
  (Oc:∀H e s',CX [] H s₁ (fun _ _ _=>False) e s'→False) :
  codeAny (model P w) callerA (.call (.ref fa) ⟨[.ref a],[]⟩) (fun r s'=>r=.ok (.ret (.bool true))∧OldK s₁.heap s'.heap∧s'.os=s₁.os∧AllBare s'.gens) s₁:=by
 have rv:=sI hi
 have Od:=hi.length
 have core:∀H:Hp,HI H→aI K H a (ns.map V.int)→gO P w H s₁.heap→(∀b,H b≠none→b=a)→(H a≠none→K.lookup a=none) →
   codeAny (model P w) callerA (.call (.ref fa) ⟨[.ref a],[]⟩) (fun r s'=>r=.ok (.ret (.bool true))∧OldK s₁.heap s'.heap∧s'.os=s₁.os∧AllBare s'.gens) s₁:=by
  intro H hO hS hok hA hK
  have zU:∀{b:WA} {o:Obj},s₁.heap.get? b=some o→H b=none→(tT s₁.heap H).get? b=some o:=fun e n=>Ck e n
  have Kj:∀{b:WA} {o:Obj} {es:Array DictEntry} {ep:Nat},s₁.heap.get? b=some o→o.data=.dict es ep→H b=none:=fun {b o es ep} e d=>by
   cases q:H b with
   | none=>rfl
   | some u =>
    have e':b=a:=hA b (by rw [q];simp)
    subst e'
    rw [ha] at e;cases e
    have d':Data.seq vs.toArray _=Data.dict es ep:=d
    cases d'
  have MV:∀{b:WA} {m:Str→Option Wr},s₁.heap.Ns b m→(tT s₁.heap H).Ns b m:=fun {b m} ⟨o,es,ep,e,d,r⟩=>⟨o,es,ep,zU e (Kj e d),d,r⟩
  have Ra:K.In (tT s₁.heap H):=fun b o e=>zU (KX b o e) (by
   cases q:H b with
   | none=>rfl
   | some u =>
    have e':b=a:=hA b (by rw [q];simp)
    subst e'
    rw [hK (by rw [q];simp)] at e;cases e)
  have hM:Mod K mg (tT s₁.heap H):=⟨Ra,MV Q9,⟨mb,MV hb,Tb⟩,let ⟨mc,h1,h2⟩:=Ob;⟨mc,MV h1,h2⟩⟩
  have e0:yr P w K mg (tT s₁.heap H) callerA [] s₁ H:=⟨rfl,hM,fun b o e=>Ey e,Nat.le_of_eq (AS _ _),trivial,fun b hb=>absurd (show b∈([]:List WA) from hb) (by simp),hok,.of_eq hg⟩
  refine codeAny_mono ((F _ Ra (MV Q9)).run callerA [] s₁ H ⟨[.ref a],[]⟩ [.ref a] [.ref a] _ _ hr e0 (Kr s₁ (.ref a)) (.cons rfl .nil) (Et H hO hS)) fun r s' h=>?_
  cases r with
  | error e=>exact(Oc H e s' h).elim
  | ok fl =>
   cases fl with
   | next=>exact XG h
   | brk=>exact XG h
   | cont=>exact XG h
   | ret u =>
    obtain⟨v,H',os,bare,un,Oe,r',q⟩:=h
    have q':v=.bl true:=q
    subst q'
    obtain rfl:u=Zw true:=r'
    refine⟨rfl,OldK.of_keep fun b o e=>?_,os,bare⟩
    cases q:H b with
    | none=>exact un.keep b o e q (by intro z;exact absurd (show b∈([]:List WA) from z) (by simp)) (by simp)
    | some u =>
     rcases hO b with z|⟨ob,xs,z⟩
     ·rw [q] at z;cases z
     ·have z2:=un.eV b ob _ z
      obtain⟨e1,_⟩:=hok b _ z
      obtain⟨e2,_⟩:=Oe b _ z2
      rw [e] at e1;cases e1
      exact e2
 cases hk:K.lookup a with
 | some o =>
  have e:=KX a o hk
  rw [ha] at e
  cases e
  refine core (fun _=>none) (fun _=>.inl rfl) (.inr ⟨_,vs.toArray,_,hk,rfl,rfl,rfl,by rw [WJ,Od];exact hl,(by simp [V.pl]),(by simpa using rv)⟩) (fun b u z=>by have z':(none:Option HO)=some u:=z;cases z') (fun b z=>absurd rfl z) fun z=>absurd rfl z
 | none =>
  refine core (fun b=>if b=a then some (.oR { cls:=.type "list",data:=.seq vs.toArray } (.lst (ns.map V.int))) else none) (fun b=>?_) (.inl (.inr ⟨{ cls:=.type "list",data:=.seq vs.toArray },if_pos rfl⟩)) (fun b u z=>?_) (fun b z=>?_) fun _=>hk
  ·by_cases hb:b=a
   ·exact .inr ⟨_,_,if_pos hb⟩
   ·exact .inl (if_neg hb)
  ·by_cases hb:b=a
   ·have z':=(if_pos hb).symm.trans z
    cases z'
    subst hb
    exact⟨ha,by rw [Lm9];exact hl,vs,_,rv,ha⟩
   ·have z':=(if_neg hb).symm.trans z
    cases z'
  ·by_cases hb:b=a
   ·exact hb
   ·exact absurd (if_neg hb) z
end L2
namespace L2
open PySem PySem.Spec PyProof.Rows
abbrev VT {K:Wo} {h:Heap} (_:K.In h):Wo:=K
theorem ER {l:Z5} {n k:Nat} {q:WM} {loose:List Str} {XP:(Str→Option Wr)→Heap→Prop} {YP:Xj→Heap→Prop} {d:DefRec} {K:Params→Wo} {CX:Xj→A1} {sp:Xj→Sp} {x:Str}
  (hn:l.most=some n) (MT:n≤Wt) (Kq:d.params.defaults=[]) (hr:cS k callerA)
  (hY:∀(w:Xj) (h:Heap),YP w h→(K w.params).In h)
  (F:∀(w:Xj) (mg:Str→Option Wr) (fa:WA) (h:Heap),(K w.params).In h→h.Ns WN mg→mg d.name=some (.ref fa) →
   ∃fd:Xk,(∀(s:Ws) (u:Wr),BindsTo s fd ⟨[u],[]⟩ [(x,u)]) ∧
    ∀base:Heap,(K w.params).In base→base.Ns WN mg→aU l.prog w (K w.params) mg base (CX w) k fa fd [x] (sp w))
  (Et:∀(w:Xj) (H:Hp) (a:WA) (ns:List Int),ns.length≤n→HI H→aI (K w.params) H a (ns.map V.int)→sp w [.ref a] H (fun v _=>v=.bl true) fun _ _ _=>False)
  (Oc:∀(w:Xj) (H:Hp) (s:Ws) (e:Wr) (s':Ws),CX w [] H s (fun _ _ _=>False) e s'→False) :
  PySem.W.WalkO q loose XP YP l.row.toRowW d [] (fun f vs=>PySem.call f vs):=by
 refine Q8.wz hn Kq fun w s₀ s₁ mg mb fa o pm cd doc a vs ns G Y ho hd hcd hmg HH hints hlen hg=>?_
 have KX:=hY w _ Y
 obtain⟨fd,hb,hF⟩:=F w mg fa _ KX G.T.g hmg
 exact CH KX G.T.g G.T.b G.T.builtins G.T.nolimit hg HH hints (W5 hlen MT) hr hF hb (fun H hO hS=>Et w H a ns hlen hO hS) fun H e s'=>Oc w H s₁ e s'
end L2
namespace L2
open PySem PySem.Spec PyProof.Rows
def inClass (s:Stmt) (j:Nat):Stmt:=match s with
 | .ClassDef _ _ _ body _ _ _ _ _ _ _=>body.getD j (.Pass ⟨0,0,0,0⟩)
 | _=>.Pass ⟨0,0,0,0⟩
def gW (s:Stmt):Arguments:=match s with
 | .FunctionDef _ a _ _ _ _ _ _ _ _=>a
 | _=>{ posonlyargs:=[],args:=[],vararg:=none,kwonlyargs:=[],kw_defaults:=[],kwarg:=none,defaults:=[] }
def eX (s:Stmt):List Stmt:=match s with
 | .FunctionDef _ _ b _ _ _ _ _ _ _=>b
 | _=>[]
def av (s:Stmt):Scope:=match s with
 | .FunctionDef _ _ _ _ _ _ sc _ _ _=>sc
 | _=>{ kind:=.function,names:=[],isGenerator:=false,isCoroutine:=false }
abbrev fK:A1:=fun _ _ _ _ _ _=>False
abbrev E0:XK:=fun _ _ _=>False
theorem zV {X:Cx}:Passes fK X E0:=fun _ _ _ _ _ _ _ h=>h.elim
structure du (K:Wo) (x qual:Str) (st:Stmt) (f:WA) (fd:Xk):Prop where
 ex:∃(oc:Wr) (od:Option WA) (kV doc pm:Wr) (an:Option WA) (cE ct:Wr) (EH:Array (Option Wr)),
  fd=Yg x qual (gW st) (eX st) (av st) .none kV doc pm an cE ct∧K.lookup f=some ⟨oc,od,.func fd,EH⟩∧Zt K cE qual=true
 kp:X8 K (.ref f)=true
section
variable {P:WM} {w:Xj} {K:Wo} {mg:Str→Option Wr} {base:Heap}
theorem du.ok {x qual:Str} {st:Stmt} {f:WA} {fd:Xk} {N ps:List Str} {k:Nat} {sp:Sp} (F:du K x qual st f fd) (S:aC N ps (av st)) (len:∀vs H Q E,sp vs H Q E→vs.length=ps.length)
  (wu:∀(cE:Wr) (A:Xf) (outer:List Env) (s:Ws) (H:Hp) (vs:List V) (Q:VK) (E:XK),cS k (A.deeper (envOfC qual (av st) s.heap.objs.size f cE))→sp vs H Q E →
   ∃t,we (yu fK P w K mg base N qual (av st) f cE A outer s H E).MP (eX st) t∧t { nx:=fun _ H'=>Q .bG H',rt:=Q } (start N vs) H):aU P w K mg base fK (k+1) f fd ps sp:=by
 obtain⟨oc,od,kV,doc,pm,an,cE,ct,EH,rfl,lk,hcd⟩:=F.ex
 refine Gs lk hcd S len fun A outer s H vs Q E hr Et=>?_
 obtain⟨t,h,q⟩:=wu cE A outer s H vs Q E hr Et
 exact⟨t,h.MP,q⟩
theorem du.binds {x qual:Str} {st:Stmt} {f:WA} {fd:Xk} {ps:List Str} (F:du K x qual st f fd)
  (h:∀(kV doc pm:Wr) (an:Option WA) (cE ct:Wr) (us:List Wr),us.length=ps.length→bindArgs (Yg x qual (gW st) (eX st) (av st) .none kV doc pm an cE ct) ⟨us,[]⟩=pure (ps.zip us)):Binds K fd ps []:=by
 obtain⟨oc,od,kV,doc,pm,an,cE,ct,EH,rfl,lk,hcd⟩:=F.ex
 exact .all (h kV doc pm an cE ct)
theorem yA {x qual:Str} {st:Stmt} {f:WA} {oc:Wr} {od an:Option WA} {EH:Array (Option Wr)} {kV doc pm cE ct:Wr} (l:K.lookup f=some ⟨oc,od,.func (Yg x qual (gW st) (eX st) (av st) .none kV doc pm an cE ct),EH⟩)
  (c:Zt K cE qual=true) (k:X8 K (.ref f)=true):du K x qual st f (Yg x qual (gW st) (eX st) (av st) .none kV doc pm an cE ct):=⟨⟨oc,od,kV,doc,pm,an,cE,ct,EH,rfl,l,c⟩,k⟩
end
theorem wA {A:Xf} {k:Nat} (hr:cS k A):A.units+1<cLine:=Nat.lt_of_le_of_lt (Nat.add_le_add_left (by decide:1≤64) _) hr.units
section
variable {X:Cx}
theorem pv (i:Nat) {x:Str} {pos:Pos} (hN:X.N[i]?=some x:=by rfl) (hv:MM X.env.scope x:=by first|exact W6 rfl|exact aam (W6 rfl)|exact aam (aam rfl)) (hd:(x == ("__debug__":Str))=false:=by decide)
  (hcd:(x == ("__classdict__":Str))=false:=by decide):PE X (.Name x pos) (JR i):=Hf hN hv hd hcd
end
theorem a7 {A B:Prop} (h:B):if false=true then A else B:=by
 rw [if_neg WE]
 exact h
theorem bF {A B:Prop} (h:A):if true=true then A else B:=by
 rw [if_pos rfl]
 exact h
theorem iN {c A B:Prop} [Decidable c] (h1:c→A) (h2:¬ c→B):if c then A else B:=by
 by_cases h:c
 ·rw [if_pos h]
  exact h1 h
 ·rw [if_neg h]
  exact h2 h
def aj (H H':Hp):Prop:=∀b o,H b=some o→H' b=some o
theorem aj.refl (H:Hp):aj H H:=fun _ _ h=>h
theorem aj.trans {H H1 H2:Hp} (a:aj H H1) (b:aj H1 H2):aj H H2:=fun c o h=>b c o (a c o h)
theorem aj.free {H H':Hp} (e:aj H H') {l:WA} (h:H' l=ZF):H l=ZF:=by
 cases q:H l with
 | none=>rfl
 | some o =>
  rw [e l o q] at h
  cases h
theorem aj.seq {K:Wo} {H H':Hp} {a:WA} {xs:List V} (e:aj H H') (h:aI K H a xs):aI K H' a xs:=by
 rcases h with(h|⟨o,h⟩)|h
 ·exact .inl (.inl (e _ _ h))
 ·exact .inl (.inr ⟨o,e _ _ h⟩)
 ·exact .inr h
end L2
namespace L2
open PySem PySem.Spec PyProof.Rows
def aZ (env:Env):List (Str × NameKind)→List (Str × WA)→List (Str × WA)
 | [],cs=>cs
 | (n,k)::r,cs=>if (k == XS)=true then aZ env r ((n,(env.cells.lookup n).getD 0)::cs) else aZ env r cs
theorem fS {env:Env}:∀(names:List (Str × NameKind)) (cs:List (Str × WA)),(∀y∈names,y.2=.free→(env.cells.lookup y.1).isSome=true) →
  (forIn names cs (fun x (cs:List (Str × WA))=>(match x with|(name,kind)=>if (kind == XS)=true then (do let a ← cellOf env name;pure (X3 ((name,a)::cs))) else pure (X3 cs):Sem (ForInStep (List (Str × WA))))):Sem (List (Str × WA)))=pure (aZ env names cs)
 | [],cs,_=>rfl
 | (n,k)::r,cs,h=>by
  have hr:∀y∈r,y.2=.free→(env.cells.lookup y.1).isSome=true:=fun y hy=>h y (Ww _ hy)
  rw [List.forIn_cons]
  by_cases hk:(k == XS)=true
  ·have e:k=.free:=by simpa using hk
   have hs:=h (n,k) WY e
   obtain⟨a,ha⟩:=XU.mp hs
   simp only [hk,if_true,aZ,cellOf,ha,ZO,pure_bind]
   exact fS r _ hr
  ·simp only [hk,aZ,pure_bind,YK,if_false]
   exact fS r _ hr
theorem pD {env:Env} {scope:Scope} (h:∀y∈scope.names,y.2=.free→(env.cells.lookup y.1).isSome=true):closureFor scope env=pure (aZ env scope.names []):=by
 have e:=fS (env:=env) scope.names [] h
 unfold closureFor
 simp only [bind_pure_comp,map_pure] at e ⊢
 rw [← e]
 simp
theorem iV {env:Env}:∀{names:List (Str × NameKind)} {cs:List (Str × WA)} {y:Str} {c:WA},(∀z∈names,z.2=.free→(env.cells.lookup z.1).isSome=true)→(∀y c,cs.lookup y=some c→env.cells.lookup y=some c) →
  (aZ env names cs).lookup y=some c→env.cells.lookup y=some c
 | [],_,_,_,_,hc,h=>hc _ _ h
 | (n,k)::r,cs,y,c,hn,hc,h=>by
  have hr:∀z∈r,z.2=.free→(env.cells.lookup z.1).isSome=true:=fun z hz=>hn z (Ww _ hz)
  unfold aZ at h
  by_cases hk:(k == XS)=true
  ·rw [if_pos hk] at h
   have e:k=.free:=by simpa using hk
   obtain⟨a,ha⟩:=XU.mp (hn (n,k) WY e)
   refine iV hr (fun z d q=>?_) h
   rw [XE] at q
   cases hz:z == n with
   | true =>
    have ez:z=n:=by simpa using hz
    rw [hz] at q
    simp only [ha,ZO] at q
    have ha':env.cells.lookup n=some a:=ha
    rw [ez,ha']
    exact q
   | false =>
    rw [hz] at q
    exact hc z d q
  ·rw [if_neg hk] at h
   exact iV hr hc h
theorem lD {env:Env}:∀{names:List (Str × NameKind)} {cs:List (Str × WA)} {y:Str},((y,XS)∈names∨(cs.lookup y).isSome=true)→((aZ env names cs).lookup y).isSome=true
 | [],_,_,h=>by
  rcases h with h|h
  ·cases h
  ·exact h
 | (n,k)::r,cs,y,h=>by
  unfold aZ
  have key:∀a:WA,(cs.lookup y).isSome=true→(YC y ((n,a)::cs)).isSome=true:=fun a q=>by
   rw [XE]
   cases y == n with
   | true=>rfl
   | false=>exact q
  by_cases hk:(k == XS)=true
  ·rw [if_pos hk]
   refine lD ?_
   rcases h with h|h
   ·rcases WS.mp h with e|h
    ·cases e
     refine .inr ?_
     rw [XE]
     simp
    ·exact .inl h
   ·exact .inr (key _ h)
  ·rw [if_neg hk]
   refine lD ?_
   rcases h with h|h
   ·rcases WS.mp h with e|h
    ·cases e
     exact absurd (by simp) hk
    ·exact .inl h
   ·exact .inr h
def dv (X:Cx) (scope:Scope) (cl:List (Str × WA)) (N:List Str) (C:WA) (s₀:Ws) (H₀:Hp) (ex:List WA):Cx where
 prog:=X.prog
 w:=X.w
 K:=X.K
 mg:=X.mg
 base:=X.base
 A:=X.A
 N:=N
 s₀:=s₀
 H₀:=H₀
 env:=compEnvC scope cl C X.env
 outer:=X.stack
 stack:=X.stack
 ex:=ex
 fn:=fun _=>false
 calm:=X.calm
 pn:=[]
 xe:=fun _ _=>False
def cO (X:Cx) (x:Str) (aQ:List Nat):List Str:=x::aQ.map fun i=>X.N.getD i (Wn "")
def bM (σ:St) (o:Option V) (aQ:List Nat):St:=o::aQ.map fun i=>(σ[i]?).join
def kq (outer scope:Scope) (x:Str) (N:List Str):Bool :=
 decide (scope.kind=.function) && scope.names.all (fun y=>decide (y.2≠.cell)) && scope.names.all (fun y=>decide (y.2=.local→scope.names.lookup y.1=some .local)) && decide (scope.names.lookup x=some .local) &&
  scope.names.all (fun y=>decide (y.2=.free→(outer.names.lookup y.1=some .cell∨outer.names.lookup y.1=some .free))) && N.tail.all (fun y=>decide (scope.names.lookup y=some .free)) && decide N.Nodup
structure CI (outer scope:Scope) (x:Str) (N:List Str):Prop where
 kind:scope.kind=.function
 yB:∀y∈scope.names,y.2≠.cell
 locs:∀y∈scope.names,y.2=.local→scope.names.lookup y.1=some .local
 Rb:scope.names.lookup x=some .local
 frees:∀y∈scope.names,y.2=.free→(outer.names.lookup y.1=some .cell∨outer.names.lookup y.1=some .free)
 aQ:∀y∈N.tail,scope.names.lookup y=some .free
 nd:N.Nodup
theorem sJ {outer scope:Scope} {x:Str} {N:List Str} (h:kq outer scope x N=true):CI outer scope x N:=by
 unfold kq at h
 simp only [WG,Xa,decide_eq_true_eq] at h
 obtain⟨⟨⟨⟨⟨⟨h1,h2⟩,h3⟩,h4⟩,h5⟩,h6⟩,h7⟩:=h
 exact⟨h1,h2,h3,h4,h5,h6,h7⟩
theorem lE {scope:Scope} {env:Env} {y:Str} {k':NameKind} (h:(relabel scope env).names.lookup y=some k'):∃k,scope.names.lookup y=some k∧(k'=k∨(k=.free∧k'=.cell)):=by
 have go:∀(names:List (Str × NameKind)),(names.map fun(n,k)=>if (k == XS && env.scope.kind == .function && env.kindOf n == some .cell) then (n,aaA) else (n,k)).lookup y=some k' →
   ∃k,names.lookup y=some k∧(k'=k∨(k=.free∧k'=.cell)):=by
  intro names
  induction names with
  | nil=>intro h;simp at h
  | cons a r ih =>
   obtain⟨n,k⟩:=a
   intro h
   rw [Xd] at h
   by_cases hc:(k == XS && env.scope.kind == .function && env.kindOf n == some .cell)=true
   ·simp only [hc,if_true,XE] at h
    rw [XE]
    cases hy:y == n with
    | true =>
     rw [hy] at h
     have hk:k=.free:=by
      simp only [WG,beq_iff_eq] at hc
      exact hc.1.1
     exact⟨k,rfl,.inr ⟨hk,(Xe h).symm⟩⟩
    | false =>
     rw [hy] at h
     exact ih h
   ·simp only [hc,YK,if_false,XE] at h
    rw [XE]
    cases hy:y == n with
    | true =>
     rw [hy] at h
     exact⟨k,rfl,.inl (Xe h).symm⟩
    | false =>
     rw [hy] at h
     exact ih h
 exact go scope.names h
theorem uc {scope:Scope} {env:Env} {y:Str} (h:scope.names.lookup y=some .free):(relabel scope env).names.lookup y=some .cell∨(relabel scope env).names.lookup y=some .free:=by
 have go:∀(names:List (Str × NameKind)),names.lookup y=some .free→(names.map fun(n,k)=>if (k == XS && env.scope.kind == .function && env.kindOf n == some .cell) then (n,aaA) else (n,k)).lookup y=some .cell ∨
   (names.map fun(n,k)=>if (k == XS && env.scope.kind == .function && env.kindOf n == some .cell) then (n,aaA) else (n,k)).lookup y=some .free:=by
  intro names
  induction names with
  | nil=>intro h;simp at h
  | cons a r ih =>
   obtain⟨n,k⟩:=a
   intro h
   rw [Xd]
   rw [XE] at h
   by_cases hc:(k == XS && env.scope.kind == .function && env.kindOf n == some .cell)=true
   ·simp only [hc,if_true,XE]
    cases hy:y == n with
    | true=>exact .inl rfl
    | false =>
     rw [hy] at h
     exact ih h
   ·simp only [hc,YK,if_false,XE]
    cases hy:y == n with
    | true =>
     rw [hy] at h
     have h':k=.free:=Xe h
     exact .inr (by rw [h'])
    | false =>
     rw [hy] at h
     exact ih h
 exact go scope.names h
def ES (X:Cx) (ifs:List Expr) (t:TT):Prop :=
 ∀(pins:List (WA × Obj)) (s:Ws) (σ:St) (H:Hp) (Q:Bool→Hp→Prop),Inv X pins σ H s→t σ H Q →
  W7 (model X.prog X.w) X.A (forIn ifs true fun c r=>if r=true then do let ok ← isTrue c X.env (eval c X.env);pure (X3 ok) else pure (X3 r)) (TP X pins σ Q) X.xe s
def HJ:TT:=fun _ H Q=>Q true H
theorem cT {X:Cx}:ES X [] HJ:=fun _ _ _ H _ I h=>wpAny_tests_nil ⟨H,I,h⟩
theorem ud {X:Cx} {c:Expr} {t:TT} (h:PT X c t):ES X [c] t:=fun pins s σ H Q I hq=>wpAny_tests_one (h pins s σ H Q I hq)
theorem ue {prog:WM} {w:Xj} {A:Xf} {R:Result→Ws→Prop} {s:Ws} {elt target iter:Expr} {ifs:List Expr} {scope:Scope} {pos:Pos} {it acc:Wr} {env:Env} (I:Nat→Ws→Prop)
  (turn:∀n s,I n s→W7 (model prog w) A (pyNext it) (fun r s₁=>match r with
   | none=>R (.ok .next) s₁
   | some v=>W7 (model prog w) A (letOwnedTupleGo target it v) (fun _ Ks=>W7 (model prog w) A (assign target env v) (fun _ s₂ =>
     W7 (model prog w) A (forIn ifs true fun c r=>if r=true then do let ok ← isTrue c env (eval c env);pure (X3 ok) else pure (X3 r)) (fun ok s₃ =>
      if ok=true then W7 (model prog w) A (eval elt env) (fun x s₄ =>
       W7 (model prog w) A (call (.builtin "list.append") [acc,x]) (fun _ s₅=>∃m,m<n∧I m s₅) (fun _ _=>False) s₄) (fun _ _=>False) s₃
      else ∃m,m<n∧I m s₃) (fun _ _=>False) s₂) (fun _ _=>False) Ks) (fun _ _=>False) s₁) (fun _ _=>False) s)
  (n:Nat) (h:I n s):codeAny (model prog w) A (.compLoop (.ListComp elt [⟨target,iter,ifs,0⟩] scope pos) 0 it acc env) R s:=by
 refine codeAny_loop rfl I (fun n s hI=>?_) n h
 show W7 _ A ((compTurn (.ListComp elt [⟨target,iter,ifs,0⟩] scope pos) 0 it acc env).onRaise (fun x=>do noteFrame x env;theTreesLotGoes x)) _ _ s
 refine wpAny_noted ?_
 rw [compTurn_list]
 refine Wu (wpAny_standAt (Wu (wpAny_mono (turn n s hI) (fun r s₁ h₁=>?_) fun _ _ h'=>h'.elim)))
 cases r with
 | none=>exact WI h₁
 | some v =>
  refine Wu (wpAny_mono h₁ (fun _ Ks Of=>?_) fun _ _ h'=>h'.elim)
  refine Wu (wpAny_mono Of (fun _ s₂ h₂=>Wu (wpAny_mono h₂ (fun ok s₃ h₃=>?_) fun _ _ h'=>h'.elim)) fun _ _ h'=>h'.elim)
  cases ok with
  | false=>exact WI ⟨rfl,h₃⟩
  | true =>
   exact Wu (Wu (wpAny_mono h₃ (fun x s₄ h₄=>Wu (wpAny_mono h₄ (fun _ s₅ h₅=>WI (WI ⟨rfl,h₅⟩)) fun _ _ h'=>h'.elim)) fun _ _ h'=>h'.elim))
def lF (tt:TT) (te:TE) (aQ:List Nat) (σ:St) (Q:VK) (J:It) (H1:Hp) (D:WA):Prop :=
 ∃W:Nat→Nat→List V→Hp→Prop,(∃m,W 0 m [] (upd H1 D (.lst [])))∧∀i m ys H,W i m ys H →
  H D=some (.lst ys)∧ys.length<Wt ∧
  ((J.stop i H∧Q (.ref D) H)∨(J.go i H∧∃N:List V→Hp→Prop,(∀zs H',N zs H'→∃m',m'<m∧W (i+1) m' zs H')∧∀x H',J.Js i H x H'→tt (bM σ (some x) aQ) H' fun b H2 =>
   if b=true then te (bM σ (some x) aQ) H2 fun y H3=>H3 D=some (.lst ys)∧N (ys++[y]) (upd H3 D (.lst (ys++[y])))
   else N ys H2))
def wB (wi:TI) (tt:TT) (te:TE) (aQ:List Nat):TE:=fun σ H Q=>wi σ H fun J H1=>∀D,H1 D=none→lF tt te aQ σ Q J H1 D
section
variable {X:Cx}
theorem pE {scope:Scope} {x:Str} {aQ:List Nat} {pins:List (WA × Obj)} {σ:St} {H:Hp} {s3:Ws} {h1:Heap} {fp:List WA} {m:Str→Option Wr} {tk:Nat} (ok:CI X.env.scope scope x (cO X x aQ)) (I:Inv X pins σ H s3)
  (hf:∀b∈fp,mB X pins H b) (pA:∀b∈fp,b<s3.heap.objs.size) (hn:h1.Ns s3.heap.objs.size m) (keep:∀b o,s3.heap.get? b=some o→h1.get? b=some o) :
  Inv (dv X scope (aZ X.env scope.names []) (cO X x aQ) s3.heap.objs.size s3 H fp) [] (bM σ none aQ) H { s3 with heap:=h1,toks:=tk }:=by
 have pF:∀z∈scope.names,z.2=.free→(X.env.cells.lookup z.1).isSome=true:=fun z hz mv=>by
  obtain⟨c,e⟩:=I.ok.has z.1 (by
   rcases ok.frees z hz mv with q|q
   ·exact .inl q
   ·exact .inr q)
  rw [e];rfl
 have sub:∀y c,(aZ X.env scope.names []).lookup y=some c→X.env.cells.lookup y=some c:=fun y c h=>iV pF (fun _ _ q=>by simp at q) h
 have hC:H s3.heap.objs.size=none:=I.hok.fresh (Wz _)
 have AV:∀y c,X.env.cells.lookup y=some c→c<s3.heap.objs.size:=fun y c e=>by
  obtain⟨v,z⟩:=I.cell y c e
  exact z.lt
 refine⟨⟨I.ok.mod,?_,I.ok.glob,I.ok.blt,Wz _,fun y z c e1 e2=>I.ok.inj y z c (sub _ _ e1) (sub _ _ e2),fun y hy=>?_,fun y c Ez _=>?_,I.ok.hd,I.ok.frames,.inl rfl,fun b hb=>⟨W2 (pA b hb),fun y c e=>(hf b hb).2.2.2.2.1 y c (sub _ _ e)⟩,
   I.bs,W5 I.ok.Ep I.sz,fun b o e hb=>?_,fun b hb ET=>?_,I.stack,I.tU⟩,
  rfl,I.bare,Un.kept keep,⟨m,hn,fun i y v e1 e2 e3=>?_⟩,fun y c e=>?_,hC,fun y c e=>I.fm y c (sub _ _ e),fun p hp=>absurd (show p∈([]:List (WA × Obj)) from hp) (by simp),I.hok.kept keep,by simp [dv,cO,bM]⟩
 ·show(relabel scope X.env).kind=.function
  exact ok.kind
 ·have hy':(relabel scope X.env).names.lookup y=some .cell∨(relabel scope X.env).names.lookup y=some .free:=hy
  have fr:scope.names.lookup y=some .free:=by
   rcases hy' with q|q
   ·obtain⟨k,e,z⟩:=lE q
    rcases z with z|⟨z,_⟩
    ·exact absurd z.symm (ok.yB _ (Xt e))
    ·rw [e,z]
   ·obtain⟨k,e,z⟩:=lE q
    rcases z with z|⟨_,z⟩
    ·rw [e,z]
    ·cases z
  exact XU.mp (lD (.inl (Xt fr)))
 ·exact absurd (show(fun _=>false) y=true from Ez) (by simp)
 ·rcases(hf b hb).2.2.2.1 with z|z
  ·exact I.ok.AU b o e z
  ·exact absurd (WR (WH e) (W5 I.ok.Ep z)) (X6 _)
 ·rcases WS.mp (I.pq b ET) with z|z
  ·exact(hf b hb).2.1 z
  ·exact(hf b hb).2.2.1 z
 ·have e1':(cO X x aQ)[i]?=some y:=e1
  cases i with
  | zero=>simp [bM] at e2
  | succ i =>
   simp only [cO,ZH,WX] at e1'
   simp only [bM,ZH,WX] at e2
   cases hj:aQ[i]? with
   | none=>rw [hj] at e2;cases e2
   | some j =>
    rw [hj] at e1' e2
    simp only [Option.map_some,Option.some.injEq] at e1' e2
    cases hσ:σ[j]? with
    | none=>rw [hσ] at e2;cases e2
    | some o =>
     rw [hσ] at e2
     have e2':o=some v:=e2
     subst e2'
     have Rc:j<X.N.length:=by rw [← I.len];exact(Wv.mp hσ).1
     have eN:X.N[j]?=some y:=by
      rw [Ge9 Rc]
      rw [Gd9,Ge9 Rc] at e1'
      exact congrArg some e1'
     have hy:scope.names.lookup y=some .free:=ok.aQ y (by
      show y∈aQ.map fun i=>X.N.getD i (Wn "")
      exact Xu.mpr ⟨j,Xy hj,e1'⟩)
     have hk:=ok.frees (y,.free) (Xt hy) rfl
     obtain⟨m',_,hl⟩:=I.loc
     obtain⟨u,r,q⟩:=hl j y v eN hσ (.inr hk)
     refine⟨u,r,.inr ⟨uc hy,?_⟩⟩
     rcases q with⟨k,_⟩|⟨_,c,e,z⟩
     ·have k':X.env.scope.names.lookup y=some .local:=k
      rw [k'] at hk
      rcases hk with hk|hk <;> cases hk
     ·obtain⟨c',e'⟩:=XU.mp (lD (env:=X.env) (cs:=[]) (.inl (Xt hy)))
      have ec:=sub _ _ e'
      rw [e] at ec
      cases ec
      obtain⟨o,ho,hd⟩:=z
      exact⟨c,e',o,keep c o ho,hd⟩
 ·obtain⟨v,o,ho,hd⟩:=I.cell y c (sub _ _ e)
  exact⟨v,o,keep c o ho,hd⟩
theorem sL {x:Str} {px pos p:Pos} {iter elt:Expr} {ifs:List Expr} {scope:Scope} {wi:TI} {tt:TT} {te:TE} {aQ:List Nat} {use:Option (Wr→Sem Unit)} {QQ:Wr→Ws→Prop}
  (hc:X.calm=true) (ho:kq X.env.scope scope x (cO X x aQ)=true) (hi:PI X (.Name x px) iter wi)
  (ht:∀cl C s₀ H₀ ex,ES (dv X scope cl (cO X x aQ) C s₀ H₀ ex) ifs tt) (he:∀cl C s₀ H₀ ex,PE (dv X scope cl (cO X x aQ) C s₀ H₀ ex) elt te)
  (hs:∀x,foldedSetIterable iter X.env x=pure x) {pins:List (WA × Obj)} {s:Ws} {σ:St} {H:Hp} {Q:VK} (I:Inv X pins σ H s) (h:wB wi tt te aQ σ H Q)
  (fin:∀(D C:WA) (H':Hp) (s':Ws) (m:Str→Option Wr),Inv X pins σ H' s'→Q (.ref D) H'→s'.heap.Ns C m→mB X pins H' C→compPost (model X.prog X.w) X.A X.xe use QQ (.ref D) C (.ok .next) s') :
  W7 (model X.prog X.w) X.A (comprehension (.ListComp elt [⟨.Name x px,iter,ifs,0⟩] scope pos) scope X.env p (newList []) false (eval iter X.env) use) QQ X.xe s:=by
 have ok:=sJ ho
 have pF:∀z∈scope.names,z.2=.free→(X.env.cells.lookup z.1).isSome=true:=fun z hz mv=>by
  obtain⟨c,e⟩:=I.ok.has z.1 (by
   rcases ok.frees z hz mv with q|q
   ·exact .inl q
   ·exact .inr q)
  rw [e];rfl
 refine wpAny_comprehension_free (cl:=aZ X.env scope.names []) (use:=use) rfl hs (pD pF) ok.kind ok.locs (thn (hi pins s σ H _ I h) fun v s1 h1=>thn h1 fun MR s2 h2=>?_)
 obtain⟨it,fp,tn,J,H2,e,I2,T,Hk,f2,rd⟩:=h2
 subst e
 refine wpAny_newObj_type (wpAny_newFunctionEnv ok.yB (by intro y hy;simp at hy) (fun h₁ yC yD=>?_) ok.kind)
 dsimp only at yC yD ⊢
 have uf:H2 s2.heap.objs.size=none:=I2.hok.fresh (Wz _)
 obtain⟨W,⟨m0,w0⟩,turn⟩:=rd s2.heap.objs.size uf
 have CJ:∀b∈fp,b<s2.heap.objs.size:=fun b hb=>by
  obtain⟨o,e,_⟩:=T.obj 0 _ Hk b hb
  exact WH e
 have hsz:(s2.heap.push { cls:=.type "list",dict:=none,data:=.seq ([]:List Wr).toArray }).objs.size=s2.heap.objs.size+1:=Zs ..
 have I3:Inv X pins σ (upd H2 s2.heap.objs.size (.lst [])) { s2 with heap:=s2.heap.push { cls:=.type "list",dict:=none,data:=.seq ([]:List Wr).toArray } } :=
  I2.laid (t':=s2.toks) (fun b u e=>Wx _ e) (Wz _) ⟨by simp,[],0,.nil,Xb _ rfl⟩
 have Es:tn 0 (s2.heap.push { cls:=.type "list",dict:=none,data:=.seq ([]:List Wr).toArray }):=T.keep _ _ _ Hk fun b _ o e=>Wx _ e
 generalize Rf:s2.heap.push { cls:=.type "list",dict:=none,data:=.seq ([]:List Wr).toArray }=h3 at yC yD hsz I3 Es ⊢
 generalize Og:upd H2 s2.heap.objs.size (.lst [])=H3 at I3 w0
 have CK:∀b∈fp,b<h3.objs.size:=fun b hb=>by rw [hsz];exact Nat.lt_succ_of_lt (CJ b hb)
 have f3:∀b∈fp,mB X pins H3 b:=fun b hb=>⟨by rw [← Og,aw (W2 (CJ b hb))];exact(f2 b hb).1,(f2 b hb).2⟩
 have keep:∀b o,h3.get? b=some o→h₁.get? b=some o:=fun b o e=>yD.extBut b o (W2 (WH e)) (Wx _ e)
 have I4:=pE (s3:={ s2 with heap:=h3 }) (tk:=s2.toks+([]:List (Str × Wr)).length) ok I3 f3 CK yC keep
 have Kt:tn 0 h₁:=T.keep _ _ _ Es fun b _ o e=>keep b o e
 generalize iO:dv X scope (aZ X.env scope.names []) (cO X x aQ) ({ s2 with heap:=h3 }:Ws).heap.objs.size { s2 with heap:=h3 } H3 fp=X' at I4
 have eA:X'.A=X.A:=by rw [← iO] <;> rfl
 have eP:X'.prog=X.prog:=by rw [← iO] <;> rfl
 have ew:X'.w=X.w:=by rw [← iO] <;> rfl
 have eK:X'.K=X.K:=by rw [← iO] <;> rfl
 have ee:X'.env=compEnvC scope (aZ X.env scope.names []) h3.objs.size X.env:=by rw [← iO] <;> rfl
 have ex:X'.xe=fun _ _=>False:=by rw [← iO] <;> rfl
 have eN:X'.N=cO X x aQ:=by rw [← iO] <;> rfl
 have ec:X'.calm=true:=by rw [← iO];exact hc
 have Oh:X'.fs=cR X.stack:=by rw [← iO] <;> rfl
 have hT':ES X' ifs tt:=by rw [← iO];exact ht _ _ _ _ _
 have hE':PE X' elt te:=by rw [← iO];exact he _ _ _ _ _
 have leave:∀{σ':St} {H':Hp} {s':Ws},Inv X' [] σ' H' s'→Q (.ref s2.heap.objs.size) H'→compPost (model X.prog X.w) X.A X.xe use QQ (.ref s2.heap.objs.size) h3.objs.size (.ok .next) s':=fun {σ' H' s'} J q=>by
  have un:Un (cR X.stack) fp H3 H' h3 s'.heap:=by have z:=J.base;rw [← iO] at z;exact z
  have A3:s'.os=s2.os:=by have z:=J.os;rw [← iO] at z;exact z
  have hk:gO X.prog X.w H' s'.heap:=by have z:=J.hok;rw [eP,ew] at z;exact z
  have Jx:=I3.Cn (s':=s') (ch:=fp) A3 un hk J.bare fun b hb=>⟨(f3 b hb).2.2.2.1,(f3 b hb).2.1,(f3 b hb).2.2.2.2.1,(f3 b hb).2.2.2.2.2⟩
  obtain⟨m,hn,_⟩:=J.loc
  have hn':s'.heap.Ns h3.objs.size m:=by rw [ee] at hn;exact hn
  have mv:H' h3.objs.size=none:=by have z:=J.free;rw [ee] at z;exact z
  exact fin _ _ H' s' m Jx q hn' (I3.AW (Wz _) mv)
 have pz:∀{H':Hp},(∀b∈fp,H' b=none)→∀b∈fp,mB X' [] H' b:=fun {H'} hn b hb=>by
  refine⟨hn b hb,?_,?_,.inl ?_,fun y c e=>?_,fun p hp=>?_⟩
  ·rw [ee];exact W2 (CK b hb)
  ·rw [Oh]
   intro z
   rcases WS.mp (I3.pq b z) with z|z
   ·exact(f3 b hb).2.1 z
   ·exact(f3 b hb).2.2.1 z
  ·rw [← iO];exact hb
  ·have e':(aZ X.env scope.names []).lookup y=some c:=by rw [ee] at e;exact e
   exact(f3 b hb).2.2.2.2.1 y c (iV pF (fun _ _ q=>by simp at q) e')
  ·rw [← iO] at hp
   exact absurd (show p∈([]:List (WA × Obj)) from hp) (by simp)
 have loop:∀s₃:Ws,s₃={ s2 with heap:=h₁,toks:=s2.toks+([]:List (Str × Wr)).length } →
   codeAny (model X.prog X.w) X.A (.compLoop (.ListComp elt [⟨.Name x px,iter,ifs,0⟩] scope pos) 0 (.ref it) (.ref s2.heap.objs.size) (compEnvC scope (aZ X.env scope.names []) h3.objs.size X.env))
    (compPost (model X.prog X.w) X.A X.xe use QQ (.ref s2.heap.objs.size) h3.objs.size) s₃:=by
  rintro s₃ rfl
  refine ue (fun n s'=>∃i o H' ys,Inv X' [] (bM σ o aQ) H' s'∧tn i s'.heap∧(∀b∈fp,H' b=none)∧W i n ys H') ?_ m0 ⟨0,none,H3,[],I4,Kt,fun b hb=>(f3 b hb).1,w0⟩
  rintro n s' ⟨i,o,H',ys,J,wm,Ku,w'⟩
  obtain⟨Tc,hlen,alt⟩:=turn i n ys H' w'
  rcases alt with⟨stop,q⟩|⟨go,N,hN,step⟩
  ·have z:=T.done X' eP ew eK ec i [] s' _ H' (fun _ _=>False) J (pz Ku) wm stop
   rw [eA] at z
   refine thn z fun r s4 ⟨hr,J4⟩=>?_
   subst hr
   exact leave J4 q
  ·have z:=T.item X' eP ew eK ec i [] s' _ H' (fun _ _=>False) J (pz Ku) wm go
   rw [eA] at z
   refine thn z fun r s4 ⟨u,hr,h4⟩=>?_
   subst hr
   refine thn h4 fun _ s5 ⟨xv,H5,J5,r5,y5,Ct,Ka⟩=>?_
   have Oi:=J5.pinned (pz Ka) (T.obj _ _ Ct)
   have lx:(relabel scope X.env).names.lookup x=some .local:=lookup_relabel_local ok.Rb
   have hg:PG X' (.Name x px) (sy 0):=b8 (by rw [eN];exact ok.nd) (by rw [eN] <;> rfl) (by rw [ee];exact .inl lx) (by rw [ee];exact .inr lx)
   have zg:=hg _ s5 _ H5 xv u (fun σ6 H6=>σ6=bM σ (some xv) aQ∧H6=H5) Oi r5 ⟨rfl,rfl⟩
   rw [eP,ew,eA,ee,ex] at zg
   refine thn zg fun _ s6 ⟨σ6,H6,J6,q6⟩=>?_
   obtain⟨e6,Oj⟩:=q6
   subst e6 Oj
   have zt:=hT' _ s6 _ _ _ J6 (step xv _ y5)
   rw [eP,ew,eA,ee,ex] at zt
   refine thn zt fun b s7 ⟨H7,J7,q7⟩=>?_
   have again:∀{H8:Hp} {s8:Ws} {EU:List V},Inv X' ([]++gS fp s5.heap) (bM σ (some xv) aQ) H8 s8→N EU H8→∃m,m<n∧∃i o H' ys,Inv X' [] (bM σ o aQ) H' s8∧tn i s8.heap∧(∀b∈fp,H' b=none)∧W i m ys H':=fun {H8 s8 EU} J8 n8=>by
    obtain⟨m',hm,w8⟩:=hN EU H8 n8
    refine⟨m',hm,i+1,some xv,H8,EU,J8.iU,T.keep _ _ _ Ct fun b hb o e=>(J8.pin (b,o) (WD _ (WD _ (dH hb e)))).1,fun b hb=>?_,w8⟩
    obtain⟨o,e,d⟩:=T.obj _ _ Ct b hb
    exact(J8.pin (b,o) (WD _ (WD _ (dH hb e)))).2.1
   cases b with
   | false=>exact again J7 q7
   | true =>
    have ze:=hE' _ s7 _ H7 _ J7 q7
    rw [eP,ew,eA,ee,ex] at ze
    refine thn ze fun yv s8 ⟨y,H8,J8,r8,Ol,q8⟩=>?_
    have za:=bz (X:=X') _ s8 _ H8 (.ref s2.heap.objs.size) [y] (.ref s2.heap.objs.size) [yv] (fun _ H9=>H9=upd H8 s2.heap.objs.size (.lst (ys++[y]))) J8 rfl (.cons r8 .nil) ⟨_,ys,y,rfl,rfl,Ol,hlen,rfl⟩
    rw [eP,ew,eA,ex] at za
    refine thn za fun _ s9 ⟨_,H9,J9,_,q9⟩=>?_
    subst q9
    exact again J9 q8
 exact codeAny_compStart_list (loop _ rfl) (T.self _ 0 _ _ _ Kt (loop _ rfl))
theorem dc {x:Str} {px pos:Pos} {iter elt:Expr} {ifs:List Expr} {scope:Scope} {wi:TI} {tt:TT} {te:TE} (aQ:List Nat)
  (hc:X.calm=true) (ho:kq X.env.scope scope x (cO X x aQ)=true) (hi:PI X (.Name x px) iter wi)
  (ht:∀cl C s₀ H₀ ex,ES (dv X scope cl (cO X x aQ) C s₀ H₀ ex) ifs tt) (he:∀cl C s₀ H₀ ex,PE (dv X scope cl (cO X x aQ) C s₀ H₀ ex) elt te)
  (hs:∀x,foldedSetIterable iter X.env x=pure x:=by intro _;rfl):PE X (.ListComp elt [⟨.Name x px,iter,ifs,0⟩] scope pos) (wB wi tt te aQ):=by
 intro pins s σ H Q I h
 rw [eval_ListComp]
 refine sL (use:=none) hc ho hi ht he hs I h fun D C H' s' m J q hn hf=>?_
 exact⟨m,hn,fun h' sb=>⟨.ref D,H',J.turned (t':=s'.toks) (fun b o hb e=>(sb.2 b hb).trans e) hf.1 hf.2.1 hf.2.2.2.1 hf.2.2.2.2.1 hf.2.2.2.2.2,rfl,q⟩⟩
theorem zW {i:Nat} {x y:Str} {px py pos Kv:Pos} {iter elt:Expr} {ifs:List Expr} {scope:Scope} {wi:TI} {tt:TT} {te:TE} (aQ:List Nat)
  (hN:X.N.Nodup) (Td:X.N[i]?=some y) (hy:Loc X.env.scope y)
  (hc:X.calm=true) (ho:kq X.env.scope scope x (cO X x aQ)=true) (hi:PI X (.Name x px) iter wi)
  (ht:∀cl C s₀ H₀ ex,ES (dv X scope cl (cO X x aQ) C s₀ H₀ ex) ifs tt) (he:∀cl C s₀ H₀ ex,PE (dv X scope cl (cO X x aQ) C s₀ H₀ ex) elt te)
  (hsw:swapsWith (.ListComp elt [⟨.Name x px,iter,ifs,0⟩] scope pos) (some (.Name y py)) Kv.line X.env=pure true:=by rfl)
  (hs:∀x,foldedSetIterable iter X.env x=pure x:=by intro _;rfl) (hf:X.fn y=true∨X.env.scope.names.lookup y=some .local:=by first|exact .inl rfl|exact .inr rfl|assumption) :
  PS X (.Assign [.Name y py] (.ListComp elt [⟨.Name x px,iter,ifs,0⟩] scope pos) Kv) (JY (wB wi tt te aQ) (sy i)):=by
 intro pins s σ H D I h
 rw [exec_Assign_Name_used _ _ _ _ hsw]
 refine Wu (wpAny_standAt (Wu ?_))
 show W7 _ X.A (do let _ ← comprehension (.ListComp elt [⟨.Name x px,iter,ifs,0⟩] scope pos) scope X.env _ (newList []) false (eval iter X.env) (some (assign (.Name y py) X.env))) _ _ s
 refine Wu (wpAny_mono (sL (QQ:=fun _ s'=>SP X pins D .next s') (use:=some (assign (.Name y py) X.env)) hc ho hi ht he hs I h fun D' C H' s' m J q hn hf'=>?_) (fun _ s' hq=>WI (WI hq)) fun _ _ e=>e)
 refine wpAny_assign_Name (sv (v:=.ref D') J hN Td hy rfl (fun s2 I2 MW=>?_) hf)
 obtain⟨a,sb,ha⟩:=MW
 have hne:C≠a:=by
  rcases ha with rfl|e
  ·exact hf'.2.1
  ·exact fun z=>hf'.2.2.2.2.1 y a e z.symm
 exact⟨m,hn.sameBut sb hne,fun VU Te=>⟨_,H',I2.turned (t':=s2.toks) (fun b o hb e=>(Te.2 b hb).trans e) hf'.1 hf'.2.1 hf'.2.2.2.1 hf'.2.2.2.2.1 hf'.2.2.2.2.2,q⟩⟩
end
section
variable {tt:TT} {te:TE} {aQ:List Nat} {σ:St} {H1:Hp} {Q:VK}
theorem uh {J:It} {D:WA} (n:Nat) (hn:n<Wt) (at_:Nat→V) (Pv:Nat→List V→Hp→Prop) (h0:Pv 0 [] (upd H1 D (.lst [])))
  (vZ:∀ys H,Pv n ys H→J.stop n H) (Tf:∀i ys H,Pv i ys H→i<n→J.go i H) (hy:∀i ys H x H',Pv i ys H→i<n→J.Js i H x H'→H'=H∧x=at_ i)
  (hD:∀i ys H,Pv i ys H→H D=some (.lst ys)∧ys.length≤i)
  (hs:∀i ys H,i<n→Pv i ys H→tt (bM σ (some (at_ i)) aQ) H fun b H2 =>
   if b=true then te (bM σ (some (at_ i)) aQ) H2 fun y H3=>H3 D=some (.lst ys)∧Pv (i+1) (ys++[y]) (upd H3 D (.lst (ys++[y])))
   else Pv (i+1) ys H2)
  (hd:∀ys H,Pv n ys H→Q (.ref D) H):lF tt te aQ σ Q J H1 D:=by
 refine⟨fun i m ys H=>m=n - i∧i≤n∧Pv i ys H,⟨n,by simp,Xs _,h0⟩,?_⟩
 rintro i m ys H ⟨rfl,hi,p⟩
 obtain⟨Tg,hl⟩:=hD i ys H p
 refine⟨Tg,by omega,?_⟩
 by_cases pA:i<n
 ·refine .inr ⟨Tf i ys H p pA,Pv (i+1),fun zs H' q=>⟨n - (i+1),by omega,rfl,pA,q⟩,fun x H' y=>?_⟩
  obtain⟨e,e'⟩:=hy i ys H x H' p pA y
  subst e e'
  exact hs i ys _ pA p
 ·have e:i=n:=by omega
  subst e
  exact .inl ⟨vZ ys H p,hd ys H p⟩
theorem gY {lo:Int} {n:Nat} {D:WA} (hn:n<Wt) (Pv:Nat→List V→Hp→Prop) (h0:Pv 0 [] (upd H1 D (.lst [])))
  (hD:∀i ys H,Pv i ys H→H D=some (.lst ys)∧ys.length≤i)
  (hs:∀i ys H,i<n→Pv i ys H→tt (bM σ (some (.int (lo+i))) aQ) H fun b H2 =>
   if b=true then te (bM σ (some (.int (lo+i))) aQ) H2 fun y H3=>H3 D=some (.lst ys)∧Pv (i+1) (ys++[y]) (upd H3 D (.lst (ys++[y])))
   else Pv (i+1) ys H2)
  (hd:∀ys H,Pv n ys H→Q (.ref D) H):lF tt te aQ σ Q (J0 lo n) H1 D :=
 uh (J:=J0 lo n) (Q:=Q) (D:=D) (H1:=H1) n hn (fun i=>.int (lo+i)) Pv h0 (fun _ _ _=>Wz _) (fun _ _ _ _ h=>h) (fun _ _ _ _ _ _ _ y=>y) hD hs hd
theorem gA {K:Wo} {a:WA} {xs:List V} {D:WA} (hn:xs.length<Wt) (Pv:Nat→List V→Hp→Prop) (h0:Pv 0 [] (upd H1 D (.lst [])))
  (hl:∀i ys H,Pv i ys H→aI K H a xs) (hD:∀i ys H,Pv i ys H→H D=some (.lst ys)∧ys.length≤i)
  (hs:∀i ys H,i<xs.length→Pv i ys H→tt (bM σ (some (xs.getD i .bG)) aQ) H fun b H2 =>
   if b=true then te (bM σ (some (xs.getD i .bG)) aQ) H2 fun y H3=>H3 D=some (.lst ys)∧Pv (i+1) (ys++[y]) (upd H3 D (.lst (ys++[y])))
   else Pv (i+1) ys H2)
  (hd:∀ys H,Pv xs.length ys H→Q (.ref D) H):lF tt te aQ σ Q (Cq K a) H1 D :=
 uh (J:=Cq K a) (Q:=Q) (D:=D) (H1:=H1) xs.length hn (fun i=>xs.getD i .bG) Pv h0 (fun ys H p=>⟨xs,hl _ ys H p,Wz _⟩)
  (fun i ys H p h=>⟨xs,xs[i],hl i ys H p,by simp [h]⟩) (fun i ys H x H' p h y=>⟨y.1,by
   have z:=y.2 xs (hl i ys H p)
   rw [Gd9,z] <;> rfl⟩) hD hs hd
end
def MX (x:Str):It:=⟨fun i _=>i<x.cps.size,fun i H v H'=>H'=H∧∃c,x.cps[i]?=some c∧v=.str ⟨#[c]⟩,fun i _=>i=x.cps.size⟩
theorem CL {P:WM} {w:Xj} {K:Wo} {tg:Expr} (ty:String) (Gv:ty="str_ascii_iterator"∨ty="str_iterator") (it:WA) (x:Str) (t:Tok) :
  Turn P w K tg (MX x) [it] it (fun i h=>h.IsStrIter it ty x t i) where
 mem:=by simp
 obj:=fun i h st b hb=>by
  have e:b=it:=by simpa using hb
  subst e
  obtain⟨o,e,c,d⟩:=st
  exact⟨o,e,fun v z=>by rw [d] at z;cases z⟩
 keep:=fun i h h' st k=>by
  obtain⟨o,e,r⟩:=st
  exact⟨o,k it (by simp) o e,r⟩
 item:=by
  intro X hP hw hK hc i pins s σ H E I hf st hg
  subst hP hw hK
  obtain⟨f0,f1,f2,f3,f4,f5⟩:=hf it (by simp)
  have wk:Walks X.prog X.w X.A it [it] [it] x.cps.size (SignAt x) (fun i h=>h.IsStrIter it ty x t i):=by
   rcases Gv with e|e
   ·subst e;exact Walks.strAscii (I.ok.hd hc) it x t
   ·subst e;exact Walks.strWide (I.ok.hd hc) it x t
  have hn:["enumerate","zip","dict_itemiterator","dict_reverseitemiterator","odict_iterator","itertools.zip_longest","itertools.pairwise"].contains ty=false:=by
   rcases Gv with e|e
   ·subst e;decide
   ·subst e;decide
  refine wk.item i s _ E hg st fun v h' tk hv wm kk=>?_
  obtain⟨c,u,hc',rfl⟩:=hv
  have I1:Inv X pins σ H { s with heap:=h',toks:=tk }:=I.turned (fun b o hb e=>kk b o (by simpa using hb) e) f0 f1 f3 f4 f5
  obtain⟨o,e,ec,d⟩:=id wm
  exact⟨_,rfl,zL (s:={ s with heap:=h',toks:=tk }) e ec d hn ⟨.str ⟨#[c]⟩,H,I1,⟨u,rfl⟩,⟨rfl,c,hc',rfl⟩,wm,fun b hb=>(hf b hb).1⟩⟩
 done:=by
  intro X hP hw hK hc i pins s σ H E I hf st hg
  subst hP hw hK
  obtain⟨f0,f1,f2,f3,f4,f5⟩:=hf it (by simp)
  have wk:Walks X.prog X.w X.A it [it] [it] x.cps.size (SignAt x) (fun i h=>h.IsStrIter it ty x t i):=by
   rcases Gv with e|e
   ·subst e;exact Walks.strAscii (I.ok.hd hc) it x t
   ·subst e;exact Walks.strWide (I.ok.hd hc) it x t
  have hi:i=x.cps.size:=hg
  subst hi
  exact wk.done s _ E st fun h' tk kk=>⟨rfl,I.turned (fun b o hb e=>kk b o (by simpa using hb) e) f0 f1 f3 f4 f5⟩
 self:=fun A i s Q E st h=>by
  rcases Gv with e|e
  ·subst e;exact wpAny_pyIter_striter_ascii st h
  ·subst e;exact wpAny_pyIter_striter_wide st h
def Om (tl:TE):TI:=fun σ H R=>tl σ H fun x H1=>∃z,x=.str z∧R (MX z) H1
section
variable {X:Cx} {tg:Expr}
theorem HK {l:Expr} {tl:TE} (hl:PE X l tl):PI X tg l (Om tl):=by
 intro pins s σ H R I h
 refine thn (hl pins s σ H _ I h) fun v s1 ⟨x,H1,I1,r1,q1⟩=>?_
 obtain⟨z,e,q⟩:=q1
 subst e
 obtain⟨t,rfl⟩:=r1
 have fin:∀ty,(ty="str_ascii_iterator"∨ty="str_iterator")→NS X pins σ tg R (.ref s1.heap.objs.size) { s1 with heap:=s1.heap.push { cls:=.type ty,data:=.fields #[.str z t,.int 0 0] } }:=fun ty Gv=>by
  refine⟨s1.heap.objs.size,[s1.heap.objs.size],_,_,H1,rfl,I1.kept (t':=s1.toks) fun b o e=>Wx _ e,CL ty Gv _ z t,⟨_,Xb _ rfl,rfl,rfl⟩,fun b hb=>?_,q⟩
  have e:b=s1.heap.objs.size:=by simpa using hb
  subst e
  exact I1.AW (Wz _) (I1.hok.fresh (Wz _))
 cases ha:z.cps.all (·<128)
 ·exact wpAny_pyIter_wide ha (fin _ (.inr rfl))
 ·exact wpAny_pyIter_ascii ha (fin _ (.inl rfl))
end
theorem CM {tt:TT} {te:TE} {aQ:List Nat} {σ:St} {H1:Hp} {Q:VK} {x:Str} {D:WA} (hn:x.cps.size<Wt) (Pv:Nat→List V→Hp→Prop) (h0:Pv 0 [] (upd H1 D (.lst [])))
  (hD:∀i ys H,Pv i ys H→H D=some (.lst ys)∧ys.length≤i)
  (hs:∀i ys H,i<x.cps.size→Pv i ys H→tt (bM σ (some (.str ⟨#[x.cps.getD i 0]⟩)) aQ) H fun b H2 =>
   if b=true then te (bM σ (some (.str ⟨#[x.cps.getD i 0]⟩)) aQ) H2 fun y H3=>H3 D=some (.lst ys)∧Pv (i+1) (ys++[y]) (upd H3 D (.lst (ys++[y])))
   else Pv (i+1) ys H2)
  (hd:∀ys H,Pv x.cps.size ys H→Q (.ref D) H):lF tt te aQ σ Q (MX x) H1 D :=
 uh (J:=MX x) (Q:=Q) (D:=D) (H1:=H1) x.cps.size hn (fun i=>.str ⟨#[x.cps.getD i 0]⟩) Pv h0 (fun _ _ _=>rfl) (fun _ _ _ _ h=>h)
  (fun i ys H v H' p h y=>⟨y.1,by
   obtain⟨c,e,rfl⟩:=y.2
   rw [Zb,e] <;> rfl⟩) hD hs hd
section
variable {X:Cx}
theorem pG {zs:List Str}:∀{us:List Wr},Vals (zs.map V.str) us→StrsAre us zs:=by
 induction zs with
 | nil=>intro us r;rw [YY] at r;cases r;exact .nil
 | cons z zs ih =>
  intro us r
  rw [Xd] at r
  cases r with
  | cons r1 r2 =>
   obtain⟨t,e⟩:=r1
   subst e
   exact .cons z t (ih r2)
def rJoin (K:Wo):V→List V→Hp→VK→Prop:=fun x vs H Q=>∃sep l zs,x=.str sep∧vs=[.ref l]∧(aI K H l (zs.map V.str)∨da K H l (zs.map V.str))∧(zs.map (·.length)).sum+zs.length * sep.length≤16777216∧Q (.str (Txt.join sep zs)) H
theorem zX:Ju X "str.join" (rJoin X.K):=by
 intro pins s σ H x vs v us Q I rx rv h
 obtain⟨sep,l,zs,rfl,rfl,hq,hz,q⟩:=h
 obtain⟨t,rfl⟩:=rx
 obtain⟨u,rfl,ru⟩:=vals1 rv
 cases ru
 rcases hq with hq|hq
 ·obtain⟨its,r',pl,_⟩:=I.list hq
  exact join_list (items:=its.toArray) pl.isList (pG r') hz fun t' k=>⟨.str _,H,I.tok _,⟨t',rfl⟩,q⟩
 ·obtain⟨its,r',pl,_⟩:=I.tuple hq
  exact join_tuple (items:=its.toArray) pl (pG r') hz fun t' k=>⟨.str _,H,I.tok _,⟨t',rfl⟩,q⟩
theorem wC {bs:List Bool}:∀{us:List Wr},Vals (bs.map V.bl) us→us=bs.map Zw:=by
 induction bs with
 | nil=>intro us r;rw [YY] at r;cases r;rfl
 | cons z zs ih =>
  intro us r
  rw [Xd] at r
  cases r with
  | cons r1 r2 =>
   have e:_=Zw z:=r1
   rw [e,ih r2]
   rfl
theorem all_range (bs:List Bool):((X0 bs.length).all fun i=>(bs[i]?).getD true)=bs.all id:=by
 rw [Ya,Xa,Xa]
 constructor
 ·intro h b hb
  obtain⟨i,hi,rfl⟩:=List.getElem_of_mem hb
  have z:=h i (Yx.mpr hi)
  simpa [hi] using z
 ·intro h i hi
  have hi':=Yx.mp hi
  have z:=h _ (WT hi')
  simpa [hi'] using z
theorem CN:dZ X (.builtin "all") (fun xs H Q=>∃(p:WA) (bs:List Bool),xs=[.ref p]∧X.calm=true∧aI X.K H p (bs.map V.bl)∧Q (.bl (bs.all id)) H):=by
 intro pins s σ H xs us Q I r h
 obtain⟨p,bs,rfl,hc,hq,q⟩:=h
 obtain⟨u,rfl,rx⟩:=vals1 r
 cases rx
 obtain⟨its,r',pl,hz⟩:=I.list hq
 have ei:=wC r'
 have pA:p<s.heap.objs.size:=by
  obtain⟨_,e,_⟩:=pl.isList
  exact WH e
 refine call_all_walk (wpAny_pyIter_list pl.isList ?_)
 refine⟨s.heap.objs.size,[s.heap.objs.size,p],[s.heap.objs.size],its.toArray.size,_,_,fun i=>(bs[i]?).getD true,rfl,Walks.list (A:=X.A.in1) (I.ok.hd hc) _ p (W2 pA) its.toArray,
  ⟨⟨_,Xb _ rfl,rfl,rfl⟩,pl.isList.push _⟩,fun i v s' Q' E' hP hQ=>?_,fun h' tk hk=>?_⟩
 ·have hP':its[i]?=some v:=by simpa using hP
  rw [ei,WX] at hP'
  cases hb:bs[i]? with
  | none=>rw [hb] at hP';cases hP'
  | some b =>
   rw [hb] at hP'
   have ev:Zw b=v:=Xe hP'
   subst ev
   simp only [hb,ZO] at hQ
   exact wpAny_truthy_bool hQ
 ·have el:its.toArray.size=bs.length:=by rw [WJ,ei,Lm9]
  rw [el,all_range]
  refine⟨.bl (bs.all id),H,I.kept (t':=tk) fun b o e=>hk b o (fun hm=>?_) (Wx _ e),rfl,q⟩
  rw [Wy.mp hm] at e
  exact X6 _ (WH e)
end
end L2
namespace L2
open PySem PySem.Spec PyProof.Rows
section
variable {X:Cx}
def Oo:V→Option Int→Option Int→Hp→VK→Prop:=fun x lo hi H Q=>∃z,x=.str z∧z.length≤Wt∧Q (.str (XM z lo hi)) H
theorem part_of {v:Wr} {o:Option Int} (p:IsPart v o):∃q:Option (Int × Tok),v=partValue q∧q.map (·.1)=o:=by
 cases p with
 | none=>exact⟨none,rfl,rfl⟩
 | int i t=>exact⟨some (i,t),rfl,rfl⟩
theorem iW:Km X Oo:=by
 intro pins s σ H x v vl vu lo hi sl Q I rx hs pl pu h
 obtain⟨z,rfl,hz,q⟩:=h
 obtain⟨t,rfl⟩:=rx
 obtain⟨ql,rfl,el⟩:=part_of pl
 obtain⟨qu,rfl,eu⟩:=part_of pu
 refine⟨"str",_,F.slot_str_getitem.lookup,typeIs_str _ _ _,wpAny_getItem_str_slice (l:=ql) (u:=qu) (st:=none) hs rfl ?_⟩
 have e:sliceMade z t ql qu none=if ((1:Int) == 1 && (Ys lo hi 1 z.length).length == z.length)=true then .val (.str z t) else .str ⟨((Ys lo hi 1 z.length).filterMap (z.cps[·]?)).toArray⟩:=by
  unfold sliceMade slicePicked
  rw [el,eu]
  rfl
 rw [e]
 exact post_val_or_str ⟨W5 (Txt.slice_le z lo hi) hz,fun t' k=>⟨.str (XM z lo hi),H,I.tok _,⟨t',rfl⟩,q⟩⟩
theorem CO {z:Str} {j:Int} (h0:0≤j) (h1:j≤z.length):(XM z none (some j)).cps.toList=z.cps.toList.take j.toNat:=by
 have e:=eq_of_beq (slice_closes_toL (x:=z) h0 h1)
 rw [e]
 simp
theorem A8 {z:Str} {i j:Int} (h0:0≤i) (h1:i≤j) (h2:j≤z.length):(XM z (some i) (some j)).cps.toList=(z.cps.toList.drop i.toNat).take (j - i).toNat:=by
 have e:=eq_of_beq (slice_closesL (x:=z) h0 h1 h2)
 rw [e]
end
inductive Dt where
 | bG|bl (b:Bool)|int (i:Int)|str (x:Str)|tup (ds:List Dt)
 deriving Inhabited
inductive yE (K:Wo) (H:Hp):Dt→V→Prop
 | bG:yE K H .bG .bG
 | bl (b:Bool):yE K H (.bl b) (.bl b)
 | int (i:Int):yE K H (.int i) (.int i)
 | str (x:Str):yE K H (.str x) (.str x)
 | tup {ds:List Dt} {xs:List V} {a:WA} (h:da K H a xs) (l:ds.length=xs.length) (r:∀(i:Nat) (h1:i<ds.length) (h2:i<xs.length),yE K H ds[i] xs[i]):yE K H (.tup ds) (.ref a)
mutual
def Dt.deep:Dt→Nat
 | .tup ds=>Dt.pH ds+1
 | _=>0
def Dt.pH:List Dt→Nat
 | []=>0
 | d::r=>max (Dt.deep d) (Dt.pH r)
end
theorem mE:∀{ds:List Dt} {i:Nat} (h:i<ds.length),(ds[i]).deep≤Dt.pH ds
 | d::r,0,_=>by
  show d.deep≤max (Dt.deep d) (Dt.pH r)
  omega
 | d::r,i+1,h=>by
  have z:=mE (ds:=r) (i:=i) (by simpa using h)
  show(r[i]'(by simpa using h)).deep≤max (Dt.deep d) (Dt.pH r)
  omega
mutual
def zY:Dt→Dt→Bool
 | .bG,.bG=>true
 | .bl a,.bl b=>a == b
 | .bl a,.int b=>(if a then 1 else 0) == b
 | .int a,.bl b=>a == (if b then 1 else 0)
 | .int a,.int b=>a == b
 | .str a,.str b=>a == b
 | .tup a,.tup b=>pI a b
 | _,_=>false
def pI:List Dt→List Dt→Bool
 | [],[]=>true
 | a::r,b::q=>zY a b && pI r q
 | _,_=>false
end
theorem kr:∀(a b:List Dt),((X0 (min a.length b.length)).all (fun i=>zY (a.getD i .bG) (b.getD i .bG)) && a.length == b.length)=pI a b
 | [],[]=>by unfold pI;rfl
 | [],b::q=>by unfold pI;simp
 | a::r,[]=>by unfold pI;simp
 | a::r,b::q=>by
  have ih:=kr r q
  rw [pI,← ih]
  have e:min (a::r).length (b::q).length=min r.length q.length+1:=by simp only [WC];omega
  rw [e,List.range_succ_eq_map,XJ,aaL]
  have e2:((a::r).length == (b::q).length)=(r.length == q.length):=by simp
  rw [e2,Bool.and_assoc]
  rfl
theorem CQ {K:Wo} {H:Hp} {X:Cx} {pins:List (WA × Obj)} {σ:St} {s:Ws} (I:Inv X pins σ H s) (hK:X.K=K) :
  ∀(n:Nat) {d e:Dt} {x:V},d.deep≤n→yE K H d x→yE K H e x→zY d e=true:=by
 subst hK
 intro n
 induction n with
 | zero =>
  intro d e x hd h1 h2
  cases h1 with
  | bG=>cases h2;rfl
  | bl a=>cases h2;show(a == a)=true;exact beq_self_eq_true a
  | int a=>cases h2;show(a == a)=true;exact beq_self_eq_true a
  | str a=>cases h2;show(a == a)=true;exact beq_self_eq_true a
  | tup h l r=>exact absurd hd (by simp [Dt.deep])
 | succ n ih =>
  intro d e x hd h1 h2
  cases h1 with
  | @tup ds xs a h l r =>
   cases h2 with
   | @tup es ys b h' l' r' =>
    have hx:xs=ys:=I.mz h h'
    subst hx
    show pI ds es=true
    rw [← kr,WG,Xa]
    refine⟨fun j hj=>?_,by rw [l,l'];simp⟩
    have hj':=Yx.mp hj
    have g1:ds.getD j .bG=ds[j]'(by omega):=by simp [Gd9,(show j<ds.length by omega)]
    have g2:es.getD j .bG=es[j]'(by omega):=by simp [Gd9,(show j<es.length by omega)]
    rw [g1,g2]
    refine ih ?_ (r j (by omega) (by omega)) (r' j (by omega) (by omega))
    have z:=mE (ds:=ds) (i:=j) (by omega)
    have hd':Dt.pH ds+1≤n+1:=hd
    omega
  | bG=>exact ih (by simp [Dt.deep]) .bG h2
  | bl a=>exact ih (by simp [Dt.deep]) (.bl a) h2
  | int a=>exact ih (by simp [Dt.deep]) (.int a) h2
  | str a=>exact ih (by simp [Dt.deep]) (.str a) h2
theorem HN {K:Wo} {H:Hp} {X:Cx} {pins:List (WA × Obj)} {σ:St} {s:Ws} (I:Inv X pins σ H s) (hK:X.K=K) :
  ∀(n:Nat) (A:Xf) {d e:Dt} {x y:V} {u v:Wr},d.deep≤n→A.units+n<cLine→yE K H d x→yE K H e y→RelV x u→RelV y v→aaF A s u v (zY d e):=by
 subst hK
 intro n
 induction n with
 | zero =>
  intro A d e x y u v hd hu h1 h2 ru rv
  cases h1 with
  | bG =>
   cases ru
   cases h2 with
   | bG=>cases rv;exact Z4 _
   | bl b=>cases rv;exact aag b
   | int b=>obtain⟨t,rfl⟩:=rv;exact aao b t
   | str b=>obtain⟨t,rfl⟩:=rv;exact aap b t
   | tup h l r=>cases rv;obtain⟨its,_,p,_⟩:=I.tuple h;exact SeqAt.EqAt.none_tuple p (by omega)
  | bl a =>
   cases ru
   cases h2 with
   | bG=>cases rv;exact aah a
   | bl b=>cases rv;exact aai a b
   | int b=>obtain⟨t,rfl⟩:=rv;exact aaq a b t
   | str b=>obtain⟨t,rfl⟩:=rv;exact aar a b t
   | tup h l r=>cases rv;obtain⟨its,_,p,_⟩:=I.tuple h;exact SeqAt.EqAt.bool_tuple a p (by omega)
  | int a =>
   obtain⟨t',rfl⟩:=ru
   cases h2 with
   | bG=>cases rv;exact aas a t'
   | bl b=>cases rv;exact aat a t' b
   | int b=>obtain⟨t,rfl⟩:=rv;exact aay a t' b t
   | str b=>obtain⟨t,rfl⟩:=rv;exact Zj a t' b t
   | tup h l r=>cases rv;obtain⟨its,_,p,_⟩:=I.tuple h;exact SeqAt.EqAt.int_tuple a t' p (by omega)
  | str a =>
   obtain⟨t',rfl⟩:=ru
   cases h2 with
   | bG=>cases rv;exact aau a t'
   | bl b=>cases rv;exact aav a t' b
   | int b=>obtain⟨t,rfl⟩:=rv;exact Zk a t' b t
   | str b=>obtain⟨t,rfl⟩:=rv;exact aaz a t' b t
   | tup h l r=>cases rv;obtain⟨its,_,p,_⟩:=I.tuple h;exact SeqAt.EqAt.str_tuple a t' p (by omega)
  | tup h l r=>exact absurd hd (by simp [Dt.deep])
 | succ n ih =>
  intro A d e x y u v hd hu h1 h2 ru rv
  cases h1 with
  | @tup ds xs a h l r =>
   cases ru
   obtain⟨its,r1,p1,_⟩:=I.tuple h
   cases h2 with
   | bG=>cases rv;exact SeqAt.EqAt.tuple_none p1 (by omega)
   | bl b=>cases rv;exact SeqAt.EqAt.tuple_bool b p1 (by omega)
   | int b=>obtain⟨t,rfl⟩:=rv;exact SeqAt.EqAt.tuple_int b t p1 (by omega)
   | str b=>obtain⟨t,rfl⟩:=rv;exact SeqAt.EqAt.tuple_str b t p1 (by omega)
   | @tup es ys b h' l' r' =>
    cases rv
    obtain⟨dt,r2,p2,_⟩:=I.tuple h'
    have EV:=r1.length
    have EW:=r2.length
    have key:SeqAt.RcAt A s (.ref a) (.ref b) ((X0 (min its.toArray.size dt.toArray.size)).all (fun i=>zY (ds.getD i .bG) (es.getD i .bG)) && its.toArray.size == dt.toArray.size):=by
     refine SeqAt.RcAt.tuples p1 p2 (by omega) fun j j1 j2=>?_
     have Th:j<its.length:=by simpa using j1
     have Ti:j<dt.length:=by simpa using j2
     have hx:=r j (by omega) (by omega)
     have hy:=r' j (by omega) (by omega)
     obtain⟨u1,e1,q1⟩:=r1.get (i:=j) (x:=xs[j]) (by simp)
     obtain⟨u2,e2,q2⟩:=r2.get (i:=j) (x:=ys[j]) (by simp)
     have c1:its.toArray[j]=u1:=by
      have z:=Wv.mp e1
      simpa using z.2
     have c2:dt.toArray[j]=u2:=by
      have z:=Wv.mp e2
      simpa using z.2
     rw [c1,c2]
     have g1:ds.getD j .bG=ds[j]:=by simp [Gd9,(show j<ds.length by omega)]
     have g2:es.getD j .bG=es[j]:=by simp [Gd9,(show j<es.length by omega)]
     rw [g1,g2]
     refine ih A.in1 ?_ (by show A.units+1+n<cLine;omega) hx hy q1 q2
     have z:=mE (ds:=ds) (i:=j) (by omega)
     have hd':Dt.pH ds+1≤n+1:=hd
     omega
    have e0:((X0 (min its.toArray.size dt.toArray.size)).all (fun i=>zY (ds.getD i .bG) (es.getD i .bG)) && its.toArray.size == dt.toArray.size)=zY (.tup ds) (.tup es):=by
     rw [WJ,WJ,← EV,← EW,← l,← l']
     rw [kr]
     rfl
    rw [e0] at key
    by_cases hab:a=b
    ·subst hab
     have hx:xs=ys:=I.mz h h'
     subst hx
     have ed:zY (.tup ds) (.tup es)=true:=CQ I rfl (n+1) hd (.tup h l r) (.tup h' l' r')
     rw [ed]
     exact Z4 _
    ·exact SeqAt.EqAt.of_refs hab key
  | bG=>exact ih A (by simp [Dt.deep]) (by omega) .bG h2 ru rv
  | bl a=>exact ih A (by simp [Dt.deep]) (by omega) (.bl a) h2 ru rv
  | int a=>exact ih A (by simp [Dt.deep]) (by omega) (.int a) h2 ru rv
  | str a=>exact ih A (by simp [Dt.deep]) (by omega) (.str a) h2 ru rv
theorem da.same {K:Wo} {H H':Hp} (e:aj H H') {a:WA} {xs:List V} (h:da K H a xs):da K H' a xs:=by
 rcases h with(h|⟨o,h⟩)|h
 ·exact .inl (.inl (e _ _ h))
 ·exact .inl (.inr ⟨o,e _ _ h⟩)
 ·exact .inr h
end L2
namespace L2
open PySem PySem.Spec PyProof.Rows
structure Jv (P:WM) (w:Xj) (outer:List Env) (H:Hp) (s:Ws) (x:WA) (cls:Wr) (H':Hp) (s':Ws):Prop where
 os:s'.os=s.os
 bare:AllBare s'.gens
 ex:∃(B:Heap) (a0:Wr),Zp B outer x cls a0 s'.heap∧gO P w H' B∧(∀b o,s.heap.get? b=some o→H b=none→b∉cR outer→B.get? b=some o) ∧
  (∀b o,s.heap.get? b=some o→b∉cR outer→∃o',B.get? b=some o')
 slot:∀b o,s.heap.get? b=some o→H b=none→b∈cR outer→∃sl,s'.heap.get? b=some { o with slots:=sl }
 free:∀b o,s.heap.get? b=some o→H b=none→H' b=none
 fi:∀b xs,H b=some (.tup xs)→H' b=some (.tup xs)
 eV:∀b o u,H b=some (.oR o u)→H' b=some (.oR o u)
 fj:∀b ps,H b=some (.Ce ps)→∃more,H' b=some (.Ce (ps++more))
def oz (P:WM) (w:Xj):A1:=fun outer H s E e s'=>∃(x:WA) (cls:Wr) (H':Hp),e=.ref x∧Jv P w outer H s x cls H' s'∧E cls none H'
section
variable {P:WM} {w:Xj} {K:Wo} {mg:Str→Option Wr} {base:Heap} {N:List Str} {qual:Str} {scope:Scope} {f:WA} {cd:Wr} {A:Xf} {outer:List Env} {s₀:Ws} {H₀:Hp} {E:XK}
abbrev cQ (P:WM) (w:Xj) (K:Wo) (mg:Str→Option Wr) (base:Heap) (N:List Str) (qual:Str) (scope:Scope) (f:WA) (cd:Wr) (A:Xf) (outer:List Env) (s:Ws) (H:Hp) (E:XK):Cx :=
 yu (oz P w) P w K mg base N qual scope f cd A outer s H E
theorem fo (env:Env) (l:List Env) {a:WA} (h:env.frame=some a):cR (env::l)=a::cR l:=by
 unfold cR
 rw [Yi,h]
theorem wD {h h':Heap} {l:List Env} {B:Heap} (sm:h.UpToSlots h') (fl:h.FunFrames B l) {b:WA} {o:Obj} (hb:b∈cR l) (e:h.get? b=some o):∃sl,h'.get? b=some { o with slots:=sl }:=by
 obtain⟨_,o',e',hd⟩:=fl.mem hb
 rw [e] at e'
 cases e'
 exact sm b o e hd
theorem Kw:Passes (oz P w) (cQ P w K mg base N qual scope f cd A outer s₀ H₀ E) E:=by
 intro pins σ H s e s' I h
 obtain⟨x,cls,H',rfl,F,hE⟩:=h
 obtain⟨B,a0,fl,hok,kp,th⟩:=F.ex
 have mv:(cQ P w K mg base N qual scope f cd A outer s₀ H₀ E).env.frame=some s₀.heap.objs.size:=rfl
 have st:cR (cQ P w K mg base N qual scope f cd A outer s₀ H₀ E).stack=s₀.heap.objs.size::cR outer:=fo _ _ mv
 have old:∀b o,s₀.heap.get? b=some o→b∉cR outer→b∉cR (cQ P w K mg base N qual scope f cd A outer s₀ H₀ E).stack:=fun b o q hb hm=>by
  rw [st] at hm
  rcases WS.mp hm with z|z
  ·exact W2 (WH q) z
  ·exact hb z
 refine wpAny_leaves_onW (L:=s₀.heap.objs.size) I.ok.frames mv fl fun h1 Tj EX=>?_
 refine⟨x,cls,H',rfl,⟨F.os.trans I.os,F.bare,⟨B,a0,Tj,hok,fun b o q n hb=>?_,fun b o q hb=>?_⟩,fun b o q n hb=>?_,fun b o q n=>?_,fun b xs q=>F.fi b xs (I.base.fi b xs q),fun b o u q=>F.eV b o u (I.base.eV b o u q),fun b ps q=>?_⟩,hE⟩
 ·exact kp b o (I.base.keep b o q n hb (by intro z;cases z)) (I.base.free b o q n (by intro z;cases z)) (old b o q hb)
 ·obtain⟨o',q'⟩:=I.base.there b o q (by intro z;cases z)
  exact th b o' q' (old b o q hb)
 ·obtain⟨sl,q1⟩:=I.base.slot b o q n hb (by intro z;cases z)
  obtain⟨HP,q2⟩:=F.slot b _ q1 (I.base.free b o q n (by intro z;cases z)) (by rw [st];exact Ww _ hb)
  obtain⟨Kx,q3⟩:=wD (l:=(cQ P w K mg base N qual scope f cd A outer s₀ H₀ E).stack) EX fl.2.2.1 (by rw [st];exact Ww _ hb) q2
  exact⟨Kx,q3⟩
 ·obtain⟨o',q'⟩:=I.base.there b o q (by intro z;cases z)
  exact F.free b o' q' (I.base.free b o q n (by intro z;cases z))
 ·obtain⟨m1,e1⟩:=I.base.fj b ps q
  obtain⟨m2,e2⟩:=F.fj b _ e1
  exact⟨m1++m2,by rw [e2,Yp]⟩
theorem wF {pins:List (WA × Obj)} {σ:St} {H:Hp} {s:Ws} {h1:Heap} {e:WA} {cls:Wr} {vs:List Wr} (I:Inv (cQ P w K mg base N qual scope f cd A outer s₀ H₀ E) pins σ H s) (hx:Heap.MadeExcOf s.heap h1 e cls vs) (hE:E cls none H) :
  (cQ P w K mg base N qual scope f cd A outer s₀ H₀ E).xe (.ref e) { s with heap:=h1 }:=by
 have mv:(cQ P w K mg base N qual scope f cd A outer s₀ H₀ E).env.frame=some s₀.heap.objs.size:=rfl
 have st:cR (cQ P w K mg base N qual scope f cd A outer s₀ H₀ E).stack=s₀.heap.objs.size::cR outer:=fo _ _ mv
 have old:∀b o,s₀.heap.get? b=some o→b∉cR outer→b∉cR (cQ P w K mg base N qual scope f cd A outer s₀ H₀ E).stack:=fun b o q hb hm=>by
  rw [st] at hm
  rcases WS.mp hm with z|z
  ·exact W2 (WH q) z
  ·exact hb z
 have oV:∀env∈(cQ P w K mg base N qual scope f cd A outer s₀ H₀ E).stack,∀b,env.frame=some b→b∈cR (cQ P w K mg base N qual scope f cd A outer s₀ H₀ E).stack:=fun env he b hb=>YG.mpr ⟨env,he,hb⟩
 have hB:(Xr s.heap (cR (cQ P w K mg base N qual scope f cd A outer s₀ H₀ E).stack)).StaysIn s.heap:=fun b o q=>Zl _ q
 have get:∀b o,s.heap.get? b=some o→b∉cR (cQ P w K mg base N qual scope f cd A outer s₀ H₀ E).stack→(Xr s.heap (cR (cQ P w K mg base N qual scope f cd A outer s₀ H₀ E).stack)).get? b=some o:=fun b o q hb=>Y8 _ q hb
 refine wpAny_leaves_madeW (base:=Xr s.heap (cR (cQ P w K mg base N qual scope f cd A outer s₀ H₀ E).stack)) (h:=s.heap) (L:=s₀.heap.objs.size) I.ok.frames mv hB (PySem.W.funFrames_hide I.stack oV) hx fun h2 t fl ht hn sm=>?_
 have hok:gO P w H (Xr s.heap (cR (cQ P w K mg base N qual scope f cd A outer s₀ H₀ E).stack)):=fun b o q=>by
  refine(I.hok b o q).wc (fun c u hc r=>get c u r fun hm=>?_) (fun _ r=>r) fun _ _ r=>r
  have z:=I.tU c hm
  rcases hc with rfl|hc
  ·rw [q] at z;cases z
  ·rw [hc] at z;cases z
 refine⟨e,cls,H,rfl,⟨I.os,I.bare,⟨_,_,fl,hok,fun b o q n hb=>?_,fun b o q hb=>?_⟩,fun b o q n hb=>?_,fun b o q n=>I.base.free b o q n (by intro z;cases z),I.base.fi,I.base.eV,I.base.fj⟩,hE⟩
 ·exact get b o (I.base.keep b o q n hb (by intro z;cases z)) (old b o q hb)
 ·obtain⟨o',q'⟩:=I.base.there b o q (by intro z;cases z)
  exact⟨o',get b o' q' (old b o q hb)⟩
 ·obtain⟨sl,q1⟩:=I.base.slot b o q n hb (by intro z;cases z)
  have q2:=hx.keeps b _ q1
  have Tn:b∈cR (cQ P w K mg base N qual scope f cd A outer s₀ H₀ E).stack:=by rw [st];exact Ww _ hb
  obtain⟨_,o3,e3,hd⟩:=I.stack.mem Tn
  rw [q1] at e3
  cases e3
  obtain⟨Kx,q3⟩:=sm b _ q2 hd
  exact⟨Kx,q3⟩
end
theorem HQ {K:Wo} {h:Heap} {C:WA} {Rg:List Wr} {newId:String} (X:K.In h) (q:Xo K C Rg newId=true) :
  ∃(bm:List Wr) (Nn:WA) (n1 n2:Str) (bs:List Wr) (hd:Bool) (sn:List Str) (sub:List Wr) (ab:Bool) (col:Option Bool) (dd:Option WA) (k0 k1 k2 k3 k5:Option Wr) (mN:Str→Option Wr),
   h.get? C=some (excClassObj n1 n2 C Nn bs bm hd sn sub ab col dd k0 k1 k2 k3 k5 newId)∧h.Ns Nn mN∧mN "__init__"=none∧OwnTail h Rg bm:=by
 unfold Xo at q
 split at q
 ·rename_i dd Oq sl look
  split at q
  ·rename_i C1 bm k0 k1 k2 k3 nn k5 Ky To
   simp only [WG,beq_iff_eq,Yd] at q
   obtain⟨⟨⟨⟨⟨q1,q2⟩,q3⟩,q4⟩,q5⟩,q6⟩:=q
   subst q1
   subst q2
   obtain⟨c1,c2,c3,c4,c5,c6,c7,c8,c9,Tp,VV⟩:=Oq
   dsimp only at Ky q3 q5 q6
   subst Ky
   subst q3
   obtain⟨Tq⟩:=sl
   have es:Tq=[k0,k1,k2,k3,some (.builtin nn),k5]:=To
   subst es
   exact⟨bm,c4,c1,c5,c2,c6,c7,c8,c9,Tp,dd,k0,k1,k2,k3,k5,_,X _ _ look,.of_isNs (PySem.W.isNs_of_in X q5),PySem.W.nsMap_none_of_in X q5 q6,PySem.W.tail_of_in X q4⟩
  ·cases q
 ·cases q
abbrev A9:List Wr:=[.type "ValueError",.type "Exception",.type "BaseException",.type "object"]
abbrev mF:String:="ValueError.__new__"
section
variable {P:WM} {w:Xj} {K:Wo} {mg:Str→Option Wr} {base:Heap} {N:List Str} {qual:Str} {scope:Scope} {f:WA} {cd:Wr} {A:Xf} {outer:List Env} {s₀:Ws} {H₀:Hp} {E:XK}
def HR (C:WA) (E:XK) (ta:TA):TS:=fun _ σ H=>ta σ H fun vs H1=>vs.length≤Wt∧E (.ref C) none H1
theorem bH {C:WA} {x:Str} {np cpos pos:Pos} {e:Expr} {es:List Expr} {t:TA} (ex:Xo K C A9 mF=true) (hm:mg x=some (.ref C)) (hg:Gl (cQ P w K mg base N qual scope f cd A outer s₀ H₀ E) x)
  (ha:PA (cQ P w K mg base N qual scope f cd A outer s₀ H₀ E) (e::es) t) (rb:(x == ("__debug__":Str))=false:=by decide)
  (he:starEach (e::es) (cQ P w K mg base N qual scope f cd A outer s₀ H₀ E).env=(false,eval e (cQ P w K mg base N qual scope f cd A outer s₀ H₀ E).env)::starEach es (cQ P w K mg base N qual scope f cd A outer s₀ H₀ E).env:=by rfl)
  (hpl:(backTo cpos (starEach es (cQ P w K mg base N qual scope f cd A outer s₀ H₀ E).env)).any (·.1)=false:=by rfl) :
  PS (cQ P w K mg base N qual scope f cd A outer s₀ H₀ E) (.Raise (some (.Call (.Name x np) (e::es) [] cpos)) none pos) (HR C E t):=by
 intro pins s σ H D I h
 obtain⟨bm,Nn,n1,n2,bs,hd,sn,sub,ab,col,dd,k0,k1,k2,k3,k5,mN,gC,gN,gi,gT⟩:=HQ I.mod.Gk ex
 refine wpAny_Raise_call_subU (C:=C) (nm:=n1) (q:=n2) (N:=Nn) (bs:=bs) (bm:=bm) (hdct:=hd) (sn:=sn) (sub:=sub) (ab:=ab) (col:=col) (dd:=dd) (k0:=k0) (k1:=k1) (k2:=k2) (k3:=k3) (k5:=k5) (mN:=mN)
  Zi (by decide +kernel) Zi (gT.hasType (by decide +kernel)) (I.ok.hd rfl) (by rw [he];show(false || (backTo cpos (starEach es (cQ P w K mg base N qual scope f cd A outer s₀ H₀ E).env)).any (·.1))=false;rw [hpl];rfl) gi (jK I hg hm ⟨rfl,?_⟩ rb)
 have hA:=ha cpos pins s σ H _ I h
 rw [he] at hA ⊢
 refine Y7 (thn hA fun us s2 ⟨vs,H2,I2,r2,hz,q2⟩=>⟨rfl,?_,I2.bk _ _ gC,gN.keeps I2.bk,gT.keeps I2.bk,fun h' x' hx=>wF I2 hx q2⟩)
 show us.length≤Wt
 rw [← r2.length]
 exact hz
theorem du.yF {x qual:Str} {st:Stmt} {f:WA} {fd:Xk} {N ps:List Str} {k:Nat} {sp:Sp} (F:du K x qual st f fd) (S:aC N ps (av st)) (len:∀vs H Q E,sp vs H Q E→vs.length=ps.length)
  (wu:∀(cE:Wr) (A:Xf) (outer:List Env) (s:Ws) (H:Hp) (vs:List V) (Q:VK) (E:XK),cS k (A.deeper (envOfC qual (av st) s.heap.objs.size f cE))→sp vs H Q E →
   ∃t,we (cQ P w K mg base N qual (av st) f cE A outer s H E) (eX st) t∧t { nx:=fun _ H'=>Q .bG H',rt:=Q } (start N vs) H):aU P w K mg base (oz P w) (k+1) f fd ps sp:=by
 obtain⟨oc,od,kV,doc,pm,an,cE,ct,EH,rfl,lk,hcd⟩:=F.ex
 refine Gs lk hcd S len fun A outer s H vs Q E hr Et=>?_
 exact wu cE A outer s H vs Q E hr Et
theorem iY:PassesOwn (model P w) (cQ P w K mg base N qual scope f cd A outer s₀ H₀ E).A (cQ P w K mg base N qual scope f cd A outer s₀ H₀ E).env (cQ P w K mg base N qual scope f cd A outer s₀ H₀ E).xe:=by
 intro e s' h
 have z:=PassesOwn.leaving (M:=model P w) (A:=(cQ P w K mg base N qual scope f cd A outer s₀ H₀ E).A) (env:=(cQ P w K mg base N qual scope f cd A outer s₀ H₀ E).env) (Q₁:=fun e CC=>oz P w outer H₀ s₀ E e CC) (E₁:=fun e' CC=>oz P w outer H₀ s₀ E e' CC)
 exact z e s' h
end
theorem Inv.land {X:Cx} {pins di:List (WA × Obj)} {σ:St} {H H':Hp} {s s':Ws} {h6:Heap} {x:WA} {cls:Wr} (I:Inv X di σ H s) (hp:∀p∈pins,p∈X.pn++di) (hex:X.ex=[]) (Ez:∀y,X.fn y=true)
  (vZ:X.stack=X.env::X.outer∧X.env.frame=some X.env.locals) (F:Jv X.prog X.w X.stack H s x cls H' s') {B:Heap} {a0:Wr} (fl:Zp B X.stack x cls a0 s'.heap) (hok:gO X.prog X.w H' B)
  (kp:∀b o,s.heap.get? b=some o→H b=none→b∉cR X.stack→B.get? b=some o) (th:∀b o,s.heap.get? b=some o→b∉cR X.stack→∃o',B.get? b=some o') (sm:s'.heap.UpToSlots h6) (hB:B.StaysIn h6) :
  Inv X pins σ H' { s' with heap:=h6 }:=by
 have EY:cR X.stack=X.env.locals::X.fs:=by rw [vZ.1];exact fo _ _ vZ.2
 have MY:∀b:WA,b∉X.ex:=fun b z=>by rw [hex] at z;cases z
 have MZ:∀b,b≠X.env.locals→b∉X.fs→b∉cR X.stack:=fun b h1 h2 hm=>by
  rw [EY] at hm
  rcases WS.mp hm with z|z
  ·exact h1 z
  ·exact h2 z
 have JP:∀b o,X.s₀.heap.get? b=some o→b≠X.env.locals:=fun b o e=>W2 (WR (WH e) I.ok.above)
 have cnf:∀y c,X.env.cells.lookup y=some c→c∉X.fs:=fun y c e hm=>by
  obtain⟨_,o,ho,_⟩:=I.ok.ly.mem hm
  exact absurd (WR (WH ho) (I.ok.Hd y c (Ez y) e)) (X6 _)
 have cellK:∀y c v,X.env.cells.lookup y=some c→s.heap.IsCell c v→h6.IsCell c v:=fun y c v e ⟨o,ho,hd⟩=>⟨o,hB _ _ (kp c o ho (I.fm y c e) (MZ c (I.AV y c e) (cnf y c e))),hd⟩
 refine⟨I.ok,F.os.trans I.os,F.bare,⟨fun b o e n hb hx=>?_,fun b o e n hb hx=>?_,fun b o e n hx=>?_,fun b o e hx=>?_,fun b xs e=>F.fi b xs (I.base.fi b xs e),fun b o u e=>F.eV b o u (I.base.eV b o u e),fun b ps e=>?_⟩,?_,fun y c e=>?_,?_,fun y c e=>?_,fun p Tt=>?_,hok.kept hB,I.len⟩
 ·exact hB _ _ (kp b o (I.base.keep b o e n hb hx) (I.base.free b o e n hx) (MZ b (JP b o e) hb))
 ·obtain⟨sl,e1⟩:=I.base.slot b o e n hb hx
  have hm:b∈cR X.stack:=by rw [EY];exact Ww _ hb
  obtain⟨HP,e2⟩:=F.slot b _ e1 (I.base.free b o e n hx) hm
  obtain⟨Kx,e3⟩:=wD sm fl.2.2.1 hm e2
  exact⟨Kx,e3⟩
 ·obtain⟨o',e1⟩:=I.base.there b o e hx
  exact F.free b o' e1 (I.base.free b o e n hx)
 ·obtain⟨o',e1⟩:=I.base.there b o e hx
  by_cases hb:b∈X.fs
  ·have hm:b∈cR X.stack:=by rw [EY];exact Ww _ hb
   obtain⟨_,o2,e2,hd⟩:=fl.2.2.1.mem hm
   obtain⟨sl,e3⟩:=sm b o2 e2 hd
   exact⟨_,e3⟩
  ·obtain⟨o2,e2⟩:=th b o' e1 (MZ b (JP b o e) hb)
   exact⟨o2,hB _ _ e2⟩
 ·obtain⟨m1,e1⟩:=I.base.fj b ps e
  obtain⟨m2,e2⟩:=F.fj b _ e1
  exact⟨m1++m2,by rw [e2,Yp]⟩
 ·obtain⟨m,hn,hl⟩:=I.loc
  have hm:X.env.locals∈cR X.stack:=by rw [EY];exact WY
  have Ot:s'.heap.Ns X.env.locals m:=by
   obtain⟨o,es,ep,ho,r⟩:=hn
   obtain⟨sl,e⟩:=F.slot _ o ho I.free hm
   exact⟨_,es,ep,e,r⟩
  refine⟨m,sm.ns Ot,fun i y v e1 e2 e3=>?_⟩
  obtain⟨u,r,l⟩:=hl i y v e1 e2 e3
  refine⟨u,r,?_⟩
  rcases l with l|⟨k,c,e,z⟩
  ·exact .inl l
  ·exact .inr ⟨k,c,e,cellK y c _ e z⟩
 ·obtain⟨v,z⟩:=I.cell y c e
  exact⟨v,cellK y c v e z⟩
 ·obtain⟨m,⟨o,_,_,ho,_⟩,_⟩:=I.loc
  exact F.free _ o ho I.free
 ·obtain⟨v,o,ho,_⟩:=I.cell y c e
  exact F.free c o ho (I.fm y c e)
 ·have Ou:p∈X.pn++di:=(WU.mp Tt).elim (fun z=>Xx _ z) (hp p)
  obtain⟨e,n,ne,nf,d⟩:=I.pin p Ou
  exact⟨hB _ _ (kp p.1 p.2 e n (MZ p.1 ne nf)),F.free p.1 p.2 e n,ne,nf,d⟩
theorem Cx.Ok.cx {X:Cx} (ok:X.Ok) {A':Xf} {cm:Bool} {pn:List (WA × Obj)} {xe:Wr→Ws→Prop} (hf:A'.frames=X.A.frames) (hh:cm=true→A'.handled=none) :
  Cx.Ok { X with A:=A',calm:=cm,pn:=pn,xe:=xe } :=
 ⟨ok.mod,ok.kind,ok.glob,ok.blt,ok.above,ok.inj,ok.has,ok.Hd,hh,hf.trans ok.frames,ok.Jr,ok.NA,ok.bs,ok.Ep,ok.AU,ok.Cm,ok.ly,ok.Gm⟩
theorem Inv.cx {X:Cx} {pins di:List (WA × Obj)} {σ:St} {H:Hp} {s:Ws} (I:Inv X pins σ H s) {A':Xf} {cm:Bool} {pn:List (WA × Obj)} {xe:Wr→Ws→Prop} (hf:A'.frames=X.A.frames) (hh:cm=true→A'.handled=none)
  (hp:∀p∈pn++di,p∈X.pn++pins):Inv { X with A:=A',calm:=cm,pn:=pn,xe:=xe } di σ H s :=
 ⟨I.ok.cx hf hh,I.os,I.bare,I.base,I.loc,I.cell,I.free,I.fm,fun p q=>I.pin p (hp p q),I.hok,I.len⟩
abbrev HS (X:Cx) (pn:List (WA × Obj)):Cx:={ X with pn:=X.pn++pn }
abbrev eS (X:Cx) (pn:List (WA × Obj)) (R:Wr→St→Hp→Prop):Cx :=
 { X with pn:=X.pn++pn,xe:=fun e s'=>∃(di:List (WA × Obj)) (σ:St) (H:Hp) (s:Ws) (H':Hp) (x:WA) (cls:Wr),Inv (HS X pn) di σ H s∧e=.ref x∧Jv X.prog X.w X.stack H s x cls H' s'∧R cls σ H' }
abbrev zZ (X:Cx) (x:WA):Cx:={ X with A:=X.A.mark (some (.ref x)),calm:=false,xe:=fun _ _=>False }
section
variable {X:Cx} {k:Nat} {f C:WA} {fd:Xk} {ps:List Str} {sp:Sp} {km:List V} {ds:List Wr} {x:Str} {p pos:Pos} {e:Expr} {es:List Expr} {t:TA} {pn:List (WA × Obj)} {R:Wr→St→Hp→Prop}
def CS (sp:Sp) (km:List V) (R:Wr→St→Hp→Prop) (t:TA):TE:=fun σ H Q=>t σ H fun vs H1=>sp (vs++km) H1 Q fun cls _ H'=>R cls σ H'
theorem EZ {pins:List (WA × Obj)} {σ:St} {H:Hp} {s:Ws} {Q:VK} {us:List Wr} {vs:List V} (F:aU X.prog X.w X.K X.mg X.base (oz X.prog X.w) k f fd ps sp) (hr:cS k X.A) (hb:Binds X.K fd ps ds) (hd:Vals km ds)
  (I:Inv (eS X pn R) pins σ H s) (r:Vals vs us) (h:sp (vs++km) H Q fun cls _ H'=>R cls σ H'):W7 (model X.prog X.w) X.A (call (.ref f) us) (EP (eS X pn R) pins σ Q) (eS X pn R).xe s:=by
 have r2:Vals (vs++km) (us++ds):=r.append hd
 have hl:(us++ds).length=ps.length:=by rw [← r2.length];exact F.len _ _ _ _ h
 refine wpAny_call (codeAny_mono (F.run X.A X.stack s H ⟨us,[]⟩ (us++ds) (vs++km) Q _ hr I.Ht (hb s us I.vY hl) r2 h) fun r s' hq=>?_)
 cases r with
 | error e =>
  obtain⟨x,cls,H',ee,F',hE⟩:=hq
  exact⟨pins,σ,H,s,H',x,cls,I.cx rfl I.ok.hd fun _ q=>q,ee,F',hE⟩
 | ok fl =>
  cases fl with
  | ret u=>exact I.after hq
  | next=>exact XG hq
  | brk=>exact XG hq
  | cont=>exact XG hq
theorem CT (F:aU X.prog X.w X.K X.mg X.base (oz X.prog X.w) k f fd ps sp) (hr:cS k X.A) (hg:Gl X x) (hm:X.mg x=some (.ref f)) (hk:X8 X.K (.ref f)=true) (hb:Binds X.K fd ps ds) (hd:Vals km ds)
  (ha:PA (eS X pn R) (e::es) t) (rb:(x == ("__debug__":Str))=false:=by decide) (he:starEach (e::es) X.env=(false,eval e X.env)::starEach es X.env:=by rfl) (hpl:(backTo pos (starEach es X.env)).any (·.1)=false:=by rfl) :
  PE (eS X pn R) (.Call (.Name x p) (e::es) [] pos) (CS sp km R t):=by
 intro pins s σ H Q I h
 refine wpAny_Call_Name_kw (jK I hg hm ?_ rb)
 refine YH (h₀:=X.base) I.ok.mod.Gk hk (thn (ha pos pins s σ H _ I h) fun us s1 ⟨vs,H1,I1,r,q⟩=>⟨I1.vY,?_⟩) he hpl
 exact EZ F hr hb hd I1 r q
end
theorem cF.has {P:WM} {w:Xj} {H:Hp} {h:Heap} {a:WA} {o:HO} (x:cF P w H h a o):∃u,h.get? a=some u:=by
 cases o with
 | lst xs=>obtain⟨_,_,_,_,e⟩:=x;exact⟨_,e⟩
 | tup xs=>obtain⟨_,_,_,o,e,_⟩:=x;exact⟨_,e⟩
 | dK kvs=>obtain⟨_,_,_,_,o,_,_,e,_⟩:=x;exact⟨_,e⟩
 | dT kvs=>obtain⟨_,_,_,_,o,_,_,e,_⟩:=x;exact⟨_,e⟩
 | set S n=>obtain⟨o,_,_,_,e,_⟩:=x;exact⟨_,e⟩
 | ins C dx fs=>obtain⟨_,_,_,e,_⟩:=x;exact⟨_,e⟩
 | own y=>obtain⟨_,e⟩:=x;exact⟨_,e⟩
 | xd fs=>obtain⟨_,⟨_,_,_,e,_⟩,_⟩:=x;exact⟨_,e⟩
 | MK lo hi=>obtain⟨_,_,_,e⟩:=x;exact⟨_,e⟩
 | oR ob u=>obtain⟨e,_⟩:=x;exact⟨_,e⟩
 | Ce ps=>exact⟨_,(show h.get? a=some _ from x)⟩
 | met f y=>exact⟨_,(show h.get? a=some _ from x)⟩
 | ext φ=>obtain⟨_,⟨_,e⟩,_⟩:=x;exact⟨_,e⟩
structure Lit (X:Cx) (pins:List (WA × Obj)) (σ:St) (H:Hp) (x:WA) (cls:Wr) (B:Heap) (a0:Wr) (s:Ws):Prop where
 fl:Zp B X.stack x cls a0 s.heap
 land:∀h',s.heap.UpToSlots h'→B.StaysIn h'→Inv X pins σ H { s with heap:=h' }
 fr:H x=none
def PH (X:Cx) (hs:List ExceptHandler) (th:Wr→TS):Prop :=
 ∀(pins:List (WA × Obj)) (s:Ws) (σ:St) (H:Hp) (D:Ends) (x:WA) (cls:Wr) (B:Heap) (a0:Wr),Lit X pins σ H x cls B a0 s→th cls D σ H→W7 (model X.prog X.w) X.A (handleBy (.ref x) X.env hs) (SP X pins D) X.xe s
def Tv:Wr→TS:=fun _ _ _ _=>False
theorem HU {X:Cx}:PH X [] Tv:=fun _ _ _ _ _ _ _ _ _ _ h=>XG h
theorem SP.cx {X X':Cx} {pins di:List (WA × Obj)} {D:Ends} {f:Flow} {s:Ws} (h:SP X pins D f s) (hI:∀σ H,Inv X pins σ H s→Inv X' di σ H s):SP X' di D f s:=by
 cases f with
 | next=>obtain⟨σ,H,I,q⟩:=h;exact⟨σ,H,hI _ _ I,q⟩
 | brk=>obtain⟨σ,H,I,q⟩:=h;exact⟨σ,H,hI _ _ I,q⟩
 | cont=>obtain⟨σ,H,I,q⟩:=h;exact⟨σ,H,hI _ _ I,q⟩
 | ret u=>obtain⟨v,σ,H,I,r,q⟩:=h;exact⟨v,σ,H,hI _ _ I,r,q⟩
def Ov (tb:(Wr→St→Hp→Prop)→TS) (th:Wr→TS):TS:=fun D σ H=>tb (fun cls σ' H'=>th cls D σ' H') D σ H
theorem HV {X:Cx} {body:List Stmt} {h₀:ExceptHandler} {hs:List ExceptHandler} {pos:Pos} {tb:(Wr→St→Hp→Prop)→TS} {th:Wr→TS} (hb:∀pn R,we (eS X pn R) body (tb R)) (hh:PH X (h₀::hs) th)
  (vZ:X.stack=X.env::X.outer:=by rfl) (mv:X.env.frame=some X.env.locals:=by rfl) (hex:X.ex=[]:=by rfl) (Ez:∀y,X.fn y=true:=by intro y;rfl):PS X (.Try body (h₀::hs) [] [] pos) (Ov tb th):=by
 intro pins s σ H D I h
 refine wpAny_Try_except (wpAny_mono (hb pins _ [] s σ H D (I.cx rfl I.ok.hd fun p q=>by rw [Xh] at q;exact q) h) (fun fw s1 q=>?_) fun e s1 q=>?_)
 ·have q':SP X pins D fw s1:=SP.cx q fun σ' H' J=>J.cx (X:=eS X pins _) (A':=X.A) rfl I.ok.hd fun p z=>by rw [Xh];exact z
  cases fw with
  | next=>exact wpAny_execs_nil q'
  | brk=>exact q'
  | cont=>exact q'
  | ret u=>exact q'
 ·obtain⟨di,σ',H1,s0,H',x,cls,I',rfl,F,hR⟩:=q
  obtain⟨B,a0,fl,hok,kp,tr⟩:=F.ex
  refine wpAny_looks_onW (base:=B) (outer:=X.outer) (L:=X.env.locals) (cls:=cls) (a0:=a0) (by rw [I.ok.frames,vZ]) mv (by rw [← vZ];exact fl) fun h1 held EX=>?_
  refine wpAny_landsW held fun h2 Tw pJ=>?_
  have hfr':H' x=none:=by
   cases e:H' x with
   | none=>rfl
   | some o =>
    obtain⟨u,hu⟩:=cF.has (hok x o e)
    rw [fl.2.1] at hu
    cases hu
  refine hh pins _ σ' H' D x cls B a0 ⟨by rw [vZ];exact Tw,fun h3 CU Es=>?_,hfr'⟩ hR
  have J:Inv (HS X pins) [] σ' H' { s1 with heap:=h3 }:=Inv.land (X:=HS X pins) I' (fun p z=>nomatch z) hex Ez ⟨vZ,mv⟩ F fl hok kp tr ((EX.trans pJ).trans CU) Es
  exact J.cx rfl I.ok.hd fun p z=>by rw [Xh];exact z
end L2
namespace L2
open PySem PySem.Spec PyProof.Rows
def gD (P:WM) (w:Xj) (K:Wo) (mg:Str→Option Wr) (base:Heap) (x:Str) (k:Nat) (ps:List Str) (sp:Sp):Prop :=
 ∃f fd,aU P w K mg base fK k f fd ps sp∧Binds K fd ps []∧X8 K (.ref f)=true∧mg x=some (.ref f)
def E1 (P:WM) (w:Xj) (K:Wo) (mg:Str→Option Wr) (base:Heap) (x:Str) (C:WA) (k:Nat) (ps:List Str) (sp:Sp):Prop :=
 ∃f fd,Mk K C f∧aU P w K mg base fK k f fd ps sp∧Binds K fd ps []∧mg x=some (.ref C)
def Met (P:WM) (w:Xj) (K:Wo) (mg:Str→Option Wr) (base:Heap) (C:WA) (m:Str) (k:Nat) (ps:List Str) (sp:Sp):Prop :=
 ∃f fd,yn K C∧Meth K C m f∧aU P w K mg base fK k f fd ps sp∧Binds K fd ps []
section
variable {X:Cx} {k:Nat} {C:WA} {ps:List Str} {sp:Sp} {x m:Str} {p pos apos:Pos} {e o:Expr} {es:List Expr} {ta:TE} {t:TA}
theorem ax (c:gD X.prog X.w X.K X.mg X.base x k ps sp) (hr:cS k X.A) (hg:Gl X x) (ha:PA X (e::es) t) (rb:(x == ("__debug__":Str))=false:=by decide) (he:starEach (e::es) X.env=(false,eval e X.env)::starEach es X.env:=by rfl) (hpl:(backTo pos (starEach es X.env)).any (·.1)=false:=by rfl) :
  PE X (.Call (.Name x p) (e::es) [] pos) (Cz sp [] E0 t):=by
 obtain⟨f,fd,F,b,kp,mg⟩:=c
 exact zQ F hr hg mg kp b .nil zV ha rb he hpl
theorem lG (c:E1 X.prog X.w X.K X.mg X.base x C k ps sp) (hr:cS (k+1) X.A) (hg:Gl X x) (ha:PA X (e::es) t) (rb:(x == ("__debug__":Str))=false:=by decide) (he:starEach (e::es) X.env=(false,eval e X.env)::starEach es X.env:=by rfl) (hpl:(backTo pos (starEach es X.env)).any (·.1)=false:=by rfl) :
  PE X (.Call (.Name x p) (e::es) [] pos) (Gr C sp [] E0 t):=by
 obtain⟨f,fd,M,F,b,mg⟩:=c
 exact EG M F hr hg mg b .nil zV ha rb he hpl
theorem Kz {pl:Sem Bool} (he:PE X o ta) (c:Met X.prog X.w X.K X.mg X.base C m k ps sp) (hr:cS k X.A) (ha:PA X (e::es) t)
  (vZ:starEach (e::es) X.env=(false,eval e X.env)::starEach es X.env:=by rfl) (hpl:(backTo pos (starEach es X.env)).any (·.1)=false:=by rfl)
  (ht:eval (.Call (.Attribute o m apos) (e::es) [] pos) X.env=(do
   let ov ← eval o X.env
   standAt apos.atName
   let (f,first) ← holding [ov] (getMethod ov m pl)
   callWith pos f first (backTo pos (starEach (e::es) X.env)) (backToKw pos (keywordEach [] X.env))):=by rfl) :
  PE X (.Call (.Attribute o m apos) (e::es) [] pos) (zP C m sp [] E0 ta t):=by
 obtain⟨f,fd,cl,M,F,b⟩:=c
 exact EF he cl M F hr b .nil zV ha vZ hpl ht
theorem Ba {pl:Sem Bool} (he:PE X o ta) (c:Met X.prog X.w X.K X.mg X.base C m k ps sp) (hr:cS k X.A)
  (ht:eval (.Call (.Attribute o m apos) [] [] pos) X.env=(do
   let ov ← eval o X.env
   standAt apos.atName
   let (f,first) ← holding [ov] (getMethod ov m pl)
   callWith pos f first (backTo pos (starEach [] X.env)) (backToKw pos (keywordEach [] X.env))):=by rfl) :
  PE X (.Call (.Attribute o m apos) [] [] pos) (zP C m sp [] E0 ta Hs):=by
 obtain⟨f,fd,cl,M,F,b⟩:=c
 exact CA he cl M F hr b .nil zV ht
theorem iZ {K:Wo} {T C:WA} {b:Bool} (hc:Yt K C=true) (ht:Yl K (.ref C)=some (.type "type")) (hs:PySem.W.mroIn K C (.ref C)=some true) (hm:PySem.W.mroIn K T (.ref C)=some b) :
  XI K (.ref T) (.ref C)=some b:=by
 unfold XI
 split
 ·rename_i h
  have e:Xg T=Xg C:=beq_iff_eq.mp h
  injection e with e
  subst e
  rw [hs] at hm
  exact hm
 ·unfold PySem.W.kitCls
  have hc':(PySem.W.clsIn K C).isSome=true:=hc
  simp only [hc',ht,beq_self_eq_true,Bool.and_self,if_true]
  exact hm
end
end L2
namespace L2
open PySem PySem.Spec PyProof.Rows
section
variable {X:Cx}
theorem sN:∀{l:List (Str × Tok)} {zs:List Str},l.map (·.1)=zs→Vals (zs.map V.str) (strValues l)
 | [],_,e=>by subst e;exact .nil
 | p::r,_,e=>by
  subst e
  exact .cons ⟨p.2,rfl⟩ (sN rfl)
def HW:V→List V→Hp→VK→Prop:=fun x vs H Q=>∃z y,x=.str z∧vs=[.str y]∧(y.length == 0)=false∧z.length≤Wt∧(YL z y).length≤Wt∧∀l,H l=none→Q (.ref l) (upd H l (.lst ((YL z y).map V.str)))
open Builtin Builtin.Str in
theorem CV {prog:WM} {w:Xj} {A:Xf} {E:Wr→Ws→Prop} {s:Ws} {x y:Str} {t u:Tok} {Q:Wr→Ws→Prop} (hy:(y.length == 0)=false) (hsz:x.length≤Wt) (hsz2:(YL x y).length≤Wt)
  (h:∀l k,l.map (·.1)=YL x y→Q (.ref s.heap.objs.size) { s with heap:=s.heap.push { cls:=.type "list",data:=.seq (strValues l).toArray },toks:=k }) :
  W7 (model prog w) A (call (.builtin "str.split") [.str x t,.str y u]) Q E s:=by
 unfold YL at hsz2 h
 cases h1:(decide (x.length<y.length) || decide (strKind x<strKind y))
 ·rw [if_neg (ne_true_of_eq_false h1)] at hsz2 h
  cases hf:(occurrences x y 0 x.length (x.length+1)).isEmpty
  ·rw [if_neg (ne_true_of_eq_false hf)] at hsz2 h
   refine call_meets Yn (typeIs_str _ _ _) YM (YD _ _) (meets_str_split_sep x y t u h1 hy hf hsz hsz2) ?_
   show wants Q E _ { s with toks:=_,heap:=s.heap.push { cls:=.type "list",data:=.seq (strsFrom s.toks (partsBetween x (occurrences x y 0 x.length (x.length+1)) y.length)).toArray } }
   rw [strsFrom_eq]
   exact h (numbered s.toks _) _ (numbered_texts _ _)
  ·rw [if_pos hf] at h
   exact call_meets Yn (typeIs_str _ _ _) YM (YD _ _) (meets_str_split_not_found x y t u h1 hy hf) (h [(x,t)] s.toks rfl)
 ·rw [if_pos h1] at h
  exact call_meets Yn (typeIs_str _ _ _) YM (YD _ _) (meets_str_split_cannot_occur x y t u h1) (h [(x,t)] s.toks rfl)
theorem CW:Ju X "str.split" HW:=by
 intro pins s σ H x vs v us Q I rx rv h
 obtain⟨z,y,rfl,rfl,hy,h1,h2,q⟩:=h
 obtain⟨t,rfl⟩:=rx
 obtain⟨u,rfl,t',rfl⟩:=vals1 rv
 refine CV hy h1 h2 fun l k e=>?_
 have hf:H s.heap.objs.size=none:=I.hok.fresh (Wz _)
 refine⟨.ref s.heap.objs.size,upd H s.heap.objs.size (.lst ((YL z y).map V.str)),I.laid (t':=k) (fun b u e=>Wx _ e) (Wz _) ?_,rfl,q _ hf⟩
 exact⟨by rw [Lm9];exact h2,strValues l,0,sN e,Xb _ rfl⟩
def HY:V→List V→Hp→VK→Prop:=fun x vs H Q=>∃z y,x=.str z∧vs=[.str y]∧z.length≤Wt∧Q (.str (aan z y)) H
theorem CY:Ju X "str.strip" HY:=by
 intro pins s σ H x vs v us Q I rx rv h
 obtain⟨z,y,rfl,rfl,h1,q⟩:=h
 obtain⟨t,rfl⟩:=rx
 obtain⟨u,rfl,t',rfl⟩:=vals1 rv
 exact SC.stripChars (fun t2 k=>⟨.str _,H,I.tok _,⟨t2,rfl⟩,q⟩) h1
theorem rh:dZ X (.type "int") (fun xs H Q=>∃z n,xs=[.str z]∧PySem.intText? z=some n∧z.length≤640∧Q (.int n) H):=by
 intro pins s σ H xs us Q I r h
 obtain⟨z,n,rfl,hn,hl,q⟩:=h
 obtain⟨u,rfl,t,rfl⟩:=vals1 r
 exact PySem.W.KIN.call_text hn hl ⟨.int n,H,I.tok _,⟨_,rfl⟩,q⟩
end
end L2
namespace L2
open PySem PySem.Spec PyProof.Rows
theorem mG {M:Model} {A:Xf} {E:Wr→Ws→Prop} {s:Ws} {β:Type} {n:Nat} (f:Nat→β→Sem (ForInStep β)) (I:Nat→β→Ws→Prop) (Q:β→Ws→Prop) {b:β}
  (turn:∀i b s',i<n→I i b s'→W7 M A (f i b) (fun r CC=>match r with|.done b'=>Q b' CC|.yield b'=>I (i+1) b' CC) E s')
  (fin:∀b s',I n b s'→Q b s') (h:I 0 b s):W7 M A (forIn [0:n] b f) Q E s:=by
 rw [Std.Legacy.Range.forIn_eq_forIn_range']
 have hsz:([0:n]:aaO).size=n:=by simp [Std.Legacy.Range.size]
 show W7 M A (forIn (List.range' 0 ([0:n]:aaO).size 1) b f) Q E s
 rw [hsz]
 refine wpAny_forIn_list f (fun rest b s'=>∃i,i≤n∧rest=List.range' i (n - i) 1∧I i b s') Q ?_ ?_ _ _ ⟨0,Xs _,by simp,h⟩
 ·rintro x rest b s' ⟨i,hi,er,hI⟩
  have pA:i<n:=by
   cases e:n - i with
   | zero=>rw [e] at er;cases er
   | succ m=>omega
  have e2:n - i=(n - (i+1))+1:=by omega
  rw [e2,List.range'_succ] at er
  injection er with e3 e4
  subst e3
  refine wpAny_mono (turn x b s' pA hI) (fun r CC q=>?_) fun _ _ q=>q
  cases r with
  | done b'=>exact q
  | yield b'=>exact⟨x+1,pA,e4,q⟩
 ·rintro b s' ⟨i,hi,er,hI⟩
  have:i=n:=by
   cases e:n - i with
   | zero=>omega
   | succ m=>rw [e,List.range'_succ] at er;cases er
  subst this
  exact fin b s' hI
open SeqAt in
theorem ri (l:WA) (items:Array Wr) (n:Nat) (dd:Option WA) (sl:Array (Option Wr)) (x:Wr) (e:Wr→Bool) (j:Nat) (hj:j<items.size) (hit:e items[j]=true) (cy:∀m (hm:m<items.size),m<j→e items[m]=false) :
  Meets (Builtin.«tuple.index» ⟨[.ref l,x],[]⟩)
   (fun A R s=>s.heap.get? l=some { cls:=.type "tuple",dict:=dd,data:=.seq items n,slots:=sl }∧(∀y,y∈items→EqAt A.in1 s y x (e y))∧R (.ok (.ret (.int (j:Nat) s.toks))) { s with toks:=s.toks+1 }) :=
 .of_wp fun prog w A R s h=>by
  obtain⟨hp,g,d,tk,os⟩:=s;obtain⟨hl,he,h⟩:=h
  wp_walk using wpAny_loadPart' hl,mG _ (fun i b s'=>b.1=none∧s'=⟨hp,g,d,tk,os⟩∧i≤j) _
  case turn =>
   rintro i b s' hi ⟨hb,rfl,Tx⟩
   have hi':i<items.size:=by omega
   rw [Array.getElem?_eq_getElem hi']
   refine Wu (he items[i] (Array.getElem_mem hi') prog w _ _ ?_)
   by_cases hy:i=j
   ·subst hy
    rw [hit]
    wp_walk
    exact⟨_,rfl,h⟩
   ·rw [cy i hi' (by omega)]
    wp_walk
    exact⟨rfl,rfl,by omega⟩
  case fin =>
   rintro⟨b1,b2⟩ s' ⟨hb,rfl,Tx⟩
   omega
  case h =>
   exact⟨rfl,rfl,Xs _⟩
end L2
namespace L2
open PySem PySem.Spec PyProof.Rows
theorem E2 {tt:TT} {te:TE} {aQ:List Nat} {σ:St} {H1:Hp} {Q:VK} {K:Wo} {a:WA} {xs:List V} {D:WA} (hn:xs.length<Wt) (uf:H1 D=none) (hl:aI K H1 a xs) (kp:V→Bool) (f:V→V)
  (ht:∀x H' R,x∈xs→aj H1 H'→(∀jM,aj H' jM→R (kp x) jM)→tt (bM σ (some x) aQ) H' R)
  (he:∀x H' R,x∈xs→kp x=true→aj H1 H'→(∀jM,aj H' jM→R (f x) jM)→te (bM σ (some x) aQ) H' R)
  (hd:∀H',aj H1 H'→H' D=some (.lst ((xs.filter kp).map f))→Q (.ref D) H'):lF tt te aQ σ Q (Cq K a) H1 D:=by
 refine gA (K:=K) (a:=a) (xs:=xs) hn (fun i ys H'=>aj H1 H'∧H' D=some (.lst ys)∧ys=((xs.take i).filter kp).map f) ⟨fun b o e=>by rw [aw (au e uf)];exact e,ae,rfl⟩
  (fun i ys H' p=>p.1.seq hl) (fun i ys H' p=>⟨p.2.1,?_⟩) (fun i ys H' hi p=>?_) (fun ys H' p=>?_)
 ·rw [p.2.2,Lm9]
  refine W5 (YZ _ _) ?_
  rw [WV]
  omega
 ·have hx:xs.getD i .bG=xs[i]:=by rw [Gd9,Ge9 hi];rfl
  rw [hx]
  have hm:xs[i]∈xs:=WT hi
  have step:∀b,kp xs[i]=b→((xs.take (i+1)).filter kp).map f=((xs.take i).filter kp).map f++(if b=true then [f xs[i]] else []):=fun b hb=>by
   rw [WB hi,Yq,WQ]
   cases b with
   | true=>rw [if_pos rfl];simp [hb]
   | false=>rw [if_neg (by decide)];simp [hb]
  refine ht _ _ _ hm p.1 fun H2 s2=>?_
  cases hb:kp xs[i] with
  | true =>
   refine bF ?_
   refine he _ _ _ hm hb (aj.trans p.1 s2) fun H3 s3=>?_
   refine⟨s3 _ _ (s2 _ _ p.2.1),fun b o e=>?_,ae,?_⟩
   ·rw [aw (au e uf)]
    exact s3 _ _ (s2 _ _ (p.1 _ _ e))
   ·rw [step true hb,if_pos rfl,p.2.2]
  | false =>
   refine a7 ⟨aj.trans p.1 s2,s2 _ _ p.2.1,?_⟩
   rw [step false hb,if_neg (by decide),Xh]
   exact p.2.2
 ·rw [p.2.2,XN] at p
  exact hd H' p.1 p.2.1
end L2
namespace HT
open PySem PySem.Spec PyProof.Rows
section
variable {prog:WM} {w:Xj} {A:Xf} {E:Wr→Ws→Prop} {s:Ws}
theorem lH {t sl:WA} {items:Array Wr} {vl vu:Wr} {lo hi:Option Int} {Q:Wr→Ws→Prop} (ht:IsTup s.heap t items) (hs:s.heap.IsSliceOf sl vl vu .none) (pl:IsPart vl lo) (pu:IsPart vu hi)
  (hw:cW items.size 0 lo=0∧cW items.size items.size hi=items.size) (h:Q (.ref t) s):W7 (model prog w) A (getItem (.ref t) (.ref sl)) Q E s:=by
 obtain⟨os,A3,Jt,Kk⟩:=id hs
 have N4:s.TypeIs (.ref sl) "slice":=⟨os,A3,Jt⟩
 unfold getItem
 try with_reducible refine wpAny_holding ?_
 first|refine Wu (WI ?_)|skip
 refine Wu (wpAny_sequenceKey ht.typeIs (by decide) ?_)
 refine Wu (wpAny_callSpecial?_slot (name:=Wn "__getitem__") ht.typeIs Xm
  (wpAny_call_entry Xm ht.typeIs entry_tuple_getitem ?_ (args_tuple_getitem _ _)))
 show W7 _ _ (Zh (.ref t) >>= _) _ _ s
 refine Wu (tupleItemsOf_ ht ?_)
 refine Wu (wpAny_typeOf N4 ?_)
 rw [if_pos (by decide)]
 refine Wu (gx hs pl pu ?_)
 have Ow:(((cW items.size 0 lo:Nat):Int) == 0 && (1:Int) == 1 && (cW items.size items.size hi - cW items.size 0 lo) == items.size)=true:=by
  rw [hw.1,hw.2]
  simp
 show W7 _ _ (if (((cW items.size 0 lo:Nat):Int) == 0 && (1:Int) == 1 && (cW items.size items.size hi - cW items.size 0 lo) == items.size)=true then _ else _) _ _ s
 rw [if_pos Ow]
 unfold Builtin.Tuple.tupleIsExact
 refine Wu (Wu (wpAny_typeOf ht.typeIs (WI ?_)))
 rw [if_pos (by decide)]
 refine Wu (wpAny_rule ?_)
 first
  | exact WI ⟨_,rfl,WI h⟩
  | exact Wu (WI (WI ⟨_,rfl,WI h⟩))
end
end HT
namespace L2
open PySem PySem.Spec PyProof.Rows
section
variable {X:Cx}
def Ox (K:Wo):V→Option Int→Option Int→Hp→VK→Prop:=fun x lo hi H Q=>∃a xs,x=.ref a∧da K H a xs∧∀p H',aj H H'→da K H' p (gU xs lo hi)→Q (.ref p) H'
theorem E3:Km X (Ox X.K):=by
 intro pins s σ H x v vl vu lo hi sl Q I rx hs pl pu h
 obtain⟨a,xs,rfl,hx,q⟩:=h
 by_cases hw:HT.cW xs.length 0 lo=0∧HT.cW xs.length xs.length hi=xs.length
 ·cases rx
  obtain⟨its,r,ht,hz⟩:=I.tuple hx
  have hlen:its.toArray.size=xs.length:=by rw [WJ];exact r.length.symm
  refine⟨"tuple",_,Xm.lookup,ht.typeIs,?_⟩
  refine HT.lH ht hs pl pu (by rw [hlen];exact hw) ⟨.ref a,H,I,rfl,q a H (aj.refl H) ?_⟩
  unfold gU
  rw [hw.1,hw.2,Yz,Nat.sub_zero,XN]
  exact hx
 ·exact Hw pins s σ H (.ref a) v vl vu lo hi sl Q I rx hs pl pu ⟨a,xs,rfl,hx,hw,fun p hp=>q p _ (fun b o e=>by rw [aw (au e hp)];exact e) (da.of ae)⟩
theorem wG {xs:List V} {k:Nat} (h:k≤xs.length):gU xs (some (k:Int)) none=xs.drop k:=by
 unfold gU
 rw [HT.zR,HT.CD,Nat.min_eq_left h,XA]
 rw [Xc]
 omega
end
end L2
namespace L2
open PySem PySem.Spec PyProof.Rows
theorem pK (l:WA) (xs:Array Wr) (n:Nat) (b:WA) (ys:Array Wr) (k:Nat) (dd:Option WA) (sl:Array (Option Wr)) (few:¬(!xs.isEmpty && XW (xs.size+ys.size))=true) (h1:xs.size≤Wt) (h2:xs.size+ys.size≤Wt+1) :
  Meets (Builtin.«list.extend» ⟨[.ref l,.ref b],[]⟩)
   (fun _ R st=>st.heap.get? l=some { cls:=.type "list",dict:=none,data:=.seq xs n,slots:=#[] }∧st.heap.get? b=some { cls:=.type "tuple",dict:=dd,data:=.seq ys k,slots:=sl } ∧
    R (.ok (.ret Zv)) { st with heap:=st.heap.update l (Obj.mapSeq fun x=>x++ys),toks:=st.toks }) :=
 .of_wp fun prog w A R st h=>by
  obtain⟨hp,gs,dr,tk,os⟩:=st
  obtain⟨gl,gb,hR⟩:=h
  have i1:=AutoSeq1.idx_int
  have i2:=AutoSeq1.sub_tuple_tuple
  have i3:=AutoSeq1.sub_list_list
  have i4:=AutoSeq1.sub_tuple_list
  have i5:=AutoSeq1.sub_list_tuple
  have both:(xs++ys).size≤Wt+1:=by rw [Array.size_append];exact h2
  wp_walk using (wpAny_updateSeq gl rfl (hz:=h1) (_hz':=both)),Zz gl,Zz gb
  exact⟨_,rfl,hR⟩
section
variable {X:Cx}
def CZ (K:Wo):V→List V→Hp→VK→Prop:=fun x vs H Q=>∃l b xs zs,x=.ref l∧vs=[.ref b]∧H l=some (.lst xs)∧da K H b zs∧xs.length+zs.length≤Wt∧Q .bG (upd H l (.lst (xs++zs)))
theorem pL:Ju X "list.extend" (CZ X.K):=by
 intro pins s σ H x vs v us Q I rx rv h
 obtain⟨l,b,xs,zs,rfl,rfl,hH,hB,hz,q⟩:=h
 cases (show v=Xg l from rx)
 obtain⟨u,rfl,ru⟩:=vals1 rv
 cases (show u=Xg b from ru)
 obtain⟨z,its,n,r,hl,e⟩:=I.A4 hH
 obtain⟨dt,r2,pl,z2⟩:=I.tuple hB
 obtain⟨⟨oc,od,dat,sl⟩,e2,hc,n2,hd⟩:=id pl
 simp only at hc hd
 subst hc hd
 have oU:=r2.length
 have hsz:its.toArray.size+dt.toArray.size≤Wt:=by rw [WJ,WJ];omega
 have CG:¬ (!its.toArray.isEmpty && XW (its.toArray.size+dt.toArray.size))=true:=by
  rw [wy hsz,YU]
  exact WE
 refine call_meets XZ ⟨_,e,rfl⟩ ZU (ZG _ _)
  (pK l its.toArray n b dt.toArray n2 od sl CG (by rw [WJ];omega) (by omega)) ⟨e,e2,?_⟩
 refine⟨.bG,_,I.HG (its':=its++dt) hH e (by simp) (r.append r2) ?_,rfl,q⟩
 rw [Wq]
 omega
end
end L2
namespace L2
open PySem PySem.Spec PyProof.Rows
section
variable {X:Cx} {K:Wo} {o e:Expr} {f:Str} {pos:Pos} {ta:TE}
theorem z0 (hK:X.K=K) (he:PE X e ta) (hb:attributeBase e f X.env (eval e X.env)=eval e X.env):PE X (.Attribute e f pos) (tFld K ta f):=by
 subst hK
 exact pe_fld he hb
end
end L2
namespace L2
open PySem PySem.Spec PyProof.Rows
section
variable {κ:Type} [DecidableEq κ]
def bt (kvs:List (κ × V)) (k:κ):Option V:=(kvs.find? fun kv=>decide (kv.1=k)).map (·.2)
def putK (kvs:List (κ × V)) (k:κ) (v:V):List (κ × V) :=
 if (kvs.any fun kv=>decide (kv.1=k))=true then kvs.map (fun kv=>if kv.1=k then (kv.1,v) else kv) else kvs++[(k,v)]
theorem i0 {p:κ × V} {r:List (κ × V)} {k:κ} (e:p.1=k):bt (p::r) k=some p.2:=by simp [bt,X4,e]
theorem i6 {p:κ × V} {r:List (κ × V)} {k:κ} (e:¬ p.1=k):bt (p::r) k=bt r k:=by simp [bt,X4,e]
theorem gE (k:κ):∀kvs:List (κ × V),(kvs.any fun kv=>decide (kv.1=k))=(bt kvs k).isSome
 | []=>rfl
 | p::r=>by
  rw [YJ]
  by_cases e:p.1=k
  ·simp only [i0 e,decide_eq_true e,Bool.true_or,Option.isSome_some]
  ·rw [i6 e,decide_eq_false e,aaB];exact gE k r
theorem i7 (kvs:List (κ × V)) (k:κ) (v:V):(putK kvs k v).length≤kvs.length+1:=by
 unfold putK
 split
 ·rw [Lm9];omega
 ·rw [Wq,WC,Xv];omega
theorem wH {kvs:List (κ × V)} {k:κ} (v:V) (h:bt kvs k=none):putK kvs k v=kvs++[(k,v)]:=by
 unfold putK
 rw [gE,h]
 exact if_neg (by decide)
theorem iM.mH {o:Option V} {u:Option Wr} (r:iM o u):o.isSome=u.isSome:=by
 cases o with
 | none=>cases u with
  | none=>rfl
  | some _=>exact(show False from r).elim
 | some _=>cases u with
  | none=>exact(show False from r).elim
  | some _=>rfl
theorem iM.getD {o:Option V} {u:Option Wr} {d:V} {d':Wr} (r:iM o u) (rd:RelV d d'):RelV (o.getD d) (u.getD d'):=by
 cases o with
 | none=>cases u with
  | none=>exact rd
  | some _=>exact(show False from r).elim
 | some _=>cases u with
  | none=>exact(show False from r).elim
  | some _=>exact r
theorem KV.val {kvs:List (κ × V)} {vs:List (κ × Wr)} (r:KV kvs vs) (k:κ):iM (bt kvs k) (valueAt vs k):=by
 unfold KV at r
 induction r with
 | nil=>exact Zy
 | @cons p q ps qs h t ih =>
  obtain⟨h1,h2⟩:=h
  by_cases e:p.1=k
  ·have e':q.1=k:=h1.symm.trans e
   have b:valueAt (q::qs) k=some q.2:=by simp [valueAt,X4,e']
   rw [i0 e,b];exact h2
  ·have e':¬ q.1=k:=fun z=>e (h1.trans z)
   have b:valueAt (q::qs) k=valueAt qs k:=by simp [valueAt,X4,e']
   rw [i6 e,b];exact ih
theorem KV.any {kvs:List (κ × V)} {vs:List (κ × Wr)} (r:KV kvs vs) (k:κ):(kvs.any fun kv=>decide (kv.1=k))=vs.any fun kv=>decide (kv.1=k):=by
 unfold KV at r
 induction r with
 | nil=>rfl
 | cons h t ih=>rw [YJ,YJ,ih,h.1]
theorem KV.HZ {kvs:List (κ × V)} {vs:List (κ × Wr)} (r:KV kvs vs) (k:κ) {y:V} {u:Wr} (ry:RelV y u) :
  KV (kvs.map fun kv=>if kv.1=k then (kv.1,y) else kv) (vs.map fun kv=>if kv.1=k then (kv.1,u) else kv):=by
 unfold KV at r ⊢
 induction r with
 | nil=>exact .nil
 | @cons p q ps qs h t ih =>
  rw [Xd,Xd]
  refine .cons ?_ ih
  obtain⟨h1,h2⟩:=h
  by_cases e:p.1=k
  ·rw [if_pos e,if_pos (h1.symm.trans e)];exact⟨h1,ry⟩
  ·rw [if_neg e,if_neg (fun z=>e (h1.trans z))];exact⟨h1,h2⟩
theorem KV.put {kvs:List (κ × V)} {vs:List (κ × Wr)} (r:KV kvs vs) (k:κ) {y:V} {u:Wr} (ry:RelV y u):KV (putK kvs k y) (stored vs k u):=by
 unfold putK stored
 rw [r.any k]
 by_cases e:(vs.any fun kv=>decide (kv.1=k))=true
 ·rw [if_pos e,if_pos e];exact r.HZ k ry
 ·rw [if_neg e,if_neg e];exact aaR r ⟨rfl,ry⟩
theorem KV.keys {kvs:List (κ × V)} {vs:List (κ × Wr)} (r:KV kvs vs):kvs.map (·.1)=vs.map (·.1):=by
 unfold KV at r
 induction r with
 | nil=>rfl
 | cons h t ih=>rw [Xd,Xd,ih,h.1]
theorem KV.length {kvs:List (κ × V)} {vs:List (κ × Wr)} (r:KV kvs vs):kvs.length=vs.length:=WW r
end
theorem sO {P:WM} {w:Xj} {k:Key} {u:Wr} (r:RelV (kV k) u):(bq P w).is k u=true:=by
 cases k with
 | inl i=>obtain⟨t,e⟩:=(show ∃t,u=aaQ i t from r);subst e;exact v9 P w i t
 | inr x=>obtain⟨t,e⟩:=(show ∃t,u=XO x t from r);subst e;exact wa P w x t
theorem sP {P:WM} {w:Xj}:∀{ks:List Key} {us:List Wr},Vals (ks.map kV) us→ItemsAre (bq P w) ks us
 | [],_,r=>by rw [YY] at r;cases r;exact .nil
 | k::ks,_,r=>by
  rw [Xd] at r
  cases r with
  | cons h t=>exact .cons (sO h) (sP t)
abbrev KT (H:Hp):List (List Key × V)→List (List Key × WA × Wr)→Prop:=Paired fun p q=>p.1=q.1∧H q.2.1=some (.tup (p.1.map kV))∧RelV p.2 q.2.2
theorem KT.val {H:Hp} {kvs:List (List Key × V)} {xs:List (List Key × WA × Wr)} (r:KT H kvs xs) (k:List Key):iM (bt kvs k) ((atKey xs k).map (·.2)):=by
 induction r with
 | nil=>exact Zy
 | @cons p q ps qs h t ih =>
  obtain⟨h1,_,h2⟩:=h
  by_cases e:p.1=k
  ·have e':q.1=k:=h1.symm.trans e
   have b:atKey (q::qs) k=some q.2:=by simp [atKey,X4,e']
   rw [i0 e,b];exact h2
  ·have e':¬ q.1=k:=fun z=>e (h1.trans z)
   have b:atKey (q::qs) k=atKey qs k:=by simp [atKey,X4,e']
   rw [i6 e,b];exact ih
theorem KT.HZ {H:Hp} {kvs:List (List Key × V)} {xs:List (List Key × WA × Wr)} (r:KT H kvs xs) (k:List Key) {y:V} {u:Wr} (ry:RelV y u) :
  KT H (kvs.map fun kv=>if kv.1=k then (kv.1,y) else kv) (xs.map (putAt k u)):=by
 induction r with
 | nil=>exact .nil
 | @cons p q ps qs h t ih =>
  rw [Xd,Xd]
  refine .cons ?_ ih
  obtain⟨h1,h2,h3⟩:=h
  unfold putAt
  by_cases e:p.1=k
  ·rw [if_pos e,if_pos (h1.symm.trans e)];exact⟨h1,h2,ry⟩
  ·rw [if_neg e,if_neg (fun z=>e (h1.trans z))];exact⟨h1,h2,h3⟩
theorem KT.put {H:Hp} {kvs:List (List Key × V)} {xs:List (List Key × WA × Wr)} (r:KT H kvs xs) (k:List Key) {b:WA} {y:V} {u:Wr} (hb:H b=some (.tup (k.map kV))) (ry:RelV y u) :
  KT H (putK kvs k y) (storedH xs k b u):=by
 have e:(kvs.any fun kv=>decide (kv.1=k))=(atKey xs k).isSome:=by
  rw [gE,(r.val k).mH,aaG]
 unfold putK storedH
 rw [e]
 by_cases q:(atKey xs k).isSome=true
 ·rw [if_pos q,if_pos q];exact r.HZ k ry
 ·rw [if_neg q,if_neg q];exact aaR r ⟨rfl,hb,ry⟩
theorem KT.keeps {H H':Hp} {kvs:List (List Key × V)} {xs:List (List Key × WA × Wr)} (r:KT H kvs xs) (ht:∀b ys,H b=some (.tup ys)→H' b=some (.tup ys)):KT H' kvs xs :=
 Paired.cP r fun _ _ z=>⟨z.1,ht _ _ z.2.1,z.2.2⟩
section
variable {P:WM} {w:Xj} {H:Hp} {h:Heap} {a:WA}
theorem Gw {u:HO} (ok:gO P w H h) (e:Rd H a u):cF P w H h a u:=e.ok ok
theorem sQ {kvs:List (Key × V)} (ok:gO P w H h) (e:Rd H a (.dK kvs)):kvs.length≤Wt∧(a == sysModules)=false∧∃vs,KV kvs vs∧h.DictOf (bq P w) a vs :=
 show cF P w H h a (.dK kvs) from Gw ok e
theorem Gx {kvs:List (Key × V)} (ok:gO P w H h) (e:H a=some (.dK kvs)):kvs.length≤Wt∧(a == sysModules)=false∧∃vs,KV kvs vs∧h.DictOf (bq P w) a vs:=sQ ok (.inl e)
theorem pM {ks:List Key} (ok:gO P w H h) (e:H a=some (.tup (ks.map kV))):(tupleKind (bq P w)).is h ks a:=by
 obtain⟨_,its,r,o,h1,h2,n,h3⟩:=(show cF P w H h a (.tup (ks.map kV)) from ok a _ e)
 exact⟨o,its.toArray,n,h1,h2,h3,by simpa using sP r⟩
theorem sR {kvs:List (List Key × V)} (ok:gO P w H h) (e:Rd H a (.dT kvs)):kvs.length≤Wt∧(a == sysModules)=false ∧
  ∃xs,KT H kvs xs∧h.DictOfH (tupleKind (bq P w)) a xs:=by
 obtain⟨z,y,xs,r,o,es,ep,h1,h2,h3,h4,h5⟩:=(show cF P w H h a (.dT kvs) from Gw ok e)
 refine⟨z,y,xs,r,o,es,ep,h1,h2,h3,h4,fun x hx=>?_,h5⟩
 have all:∀{l:List (List Key × V)} {m:List (List Key × WA × Wr)},KT H l m→∀x∈m,(tupleKind (bq P w)).is h x.1 x.2.1:=by
  intro l m q
  induction q with
  | nil=>intro x hx;exact nomatch hx
  | @cons p q ps qs hq t ih =>
   intro x hx
   rcases WS.mp hx with e|hx
   ·subst e
    exact pM ok (by rw [← hq.1];exact hq.2.1)
   ·exact ih x hx
 exact all r x hx
theorem KA {kvs:List (List Key × V)} (ok:gO P w H h) (e:H a=some (.dT kvs)):kvs.length≤Wt∧(a == sysModules)=false ∧
  ∃xs,KT H kvs xs∧h.DictOfH (tupleKind (bq P w)) a xs:=sR ok (.inl e)
end
def iP (H:Hp) (a:WA) (y:V) (r:Option V):Prop :=
 (∃kvs k,Rd H a (.dK kvs)∧y=kV k∧r=bt kvs k)∨∃kvs k b,Rd H a (.dT kvs)∧y=.ref b∧H b=some (.tup (k.map kV))∧r=bt kvs k
def Bb (H:Hp) (a:WA) (y v:V) (H':Hp):Prop :=
 (∃kvs k,H a=some (.dK kvs)∧y=kV k∧kvs.length<Wt∧H'=upd H a (.dK (putK kvs k v))) ∨
 ∃kvs k b,H a=some (.dT kvs)∧y=.ref b∧H b=some (.tup (k.map kV))∧kvs.length<Wt∧H'=upd H a (.dT (putK kvs k v))
theorem iP.k {H:Hp} {a:WA} {kvs:List (Key × V)} {k:Key} (e:H a=some (.dK kvs)):iP H a (kV k) (bt kvs k):=.inl ⟨kvs,k,.inl e,rfl,rfl⟩
theorem Bb.k {H:Hp} {a:WA} {kvs:List (Key × V)} {k:Key} {v:V} (e:H a=some (.dK kvs)) (hl:kvs.length<Wt):Bb H a (kV k) v (upd H a (.dK (putK kvs k v))):=.inl ⟨kvs,k,e,rfl,hl,rfl⟩
section
variable {X:Cx} {pins:List (WA × Obj)} {σ:St} {H:Hp} {s:Ws} {a:WA} {y v:V} {u r:Wr} {o:Option V} {A:Xf} {E:Wr→Ws→Prop}
theorem Inv.big (I:Inv X pins σ H s):sysModules<s.heap.objs.size:=by
 have h:WN<s.heap.objs.size:=(I.mod.glob.keeps I.bk).lt
 exact Nat.lt_trans (by decide) h
theorem Bc {Q:Wr→Ws→Prop} (hu:A.units+1<cLine) (I:Inv X pins σ H s) (g:iP H a y (some v)) (ry:RelV y u) (h:∀w' s',Inv X pins σ H s'→RelV v w'→Q w' s') :
  W7 (model X.prog X.w) A (getItem (.ref a) u) Q E s:=by
 rcases g with⟨kvs,k,e,ey,l⟩|⟨kvs,k,b,e,ey,eb,l⟩
 ·subst ey
  obtain⟨z,hd,vs,rel,dd⟩:=sQ I.hok e
  obtain⟨w',hw,yz⟩:=iM.some_of (v:=v) (o:=valueAt vs k) (by rw [l];exact rel.val k)
  exact wpAny_getItem_of (sO ry) dd.mapOf hw (h w' _ (I.tok _) yz)
 ·subst ey
  cases (show u=Xg b from ry)
  obtain⟨z,hd,xs,rel,dd⟩:=sR I.hok e
  obtain⟨w',hw,yz⟩:=iM.some_of (v:=v) (o:=(atKey xs k).map (·.2)) (by rw [l];exact rel.val k)
  obtain⟨p,hp,C0⟩:=YT.mp hw
  refine wpAny_getItem_heap (tupleKind_room_in1 hu) (pM I.hok eb) dd hp ?_
  rw [C0]
  exact h w' _ (I.tok _) yz
theorem E4 {Q:Wr→Ws→Prop} (hu:A.units+1<cLine) (I:Inv X pins σ H s) (g:iP H a y o) (ry:RelV y u) (h:∀s',Inv X pins σ H s'→Q (.bool (!o.isSome)) s') :
  W7 (model X.prog X.w) A (compareOp .NotIn u (.ref a)) Q E s:=by
 rcases g with⟨kvs,k,e,ey,l⟩|⟨kvs,k,b,e,ey,eb,l⟩
 ·subst ey
  obtain⟨z,hd,vs,rel,dd⟩:=sQ I.hok e
  refine wpAny_notIn_of (sO ry) hd dd.mapOf ?_
  rw [← (rel.val k).mH,← l]
  exact h _ (I.tok _)
 ·subst ey
  cases (show u=Xg b from ry)
  obtain⟨z,hd,xs,rel,dd⟩:=sR I.hok e
  refine wpAny_notIn_heap (tupleKind_room_in1 hu) (pM I.hok eb) hd dd ?_
  have q:=(rel.val k).mH
  rw [aaG] at q
  rw [← q,← l]
  exact h _ (I.tok _)
theorem z6 {h':Heap} {t':Nat} {ob:HO} (I:Inv X pins σ H s) (mu:JN (H a)) (hs:Zm a s.heap h') (he:∃q,h'.get? a=some q) (new:cF X.prog X.w (upd H a ob) h' a ob) :
  Inv X pins σ (upd H a ob) { s with heap:=h',toks:=t' } :=
 I.write (x:=a) (e:=a) mu (.inl rfl) (fun b q hb z=>(hs.2 b hb).trans z) he new
theorem Ia {P:WM} {w:Xj} {H':Hp} {h':Heap} {kvs:List (Key × V)} {vs:List (Key × Wr)} (z:kvs.length≤Wt) (hd:(a == sysModules)=false) (rel:KV kvs vs) (dd:h'.DictOf (bq P w) a vs) :
  cF P w H' h' a (.dK kvs):=⟨z,hd,vs,rel,dd⟩
theorem Bd {H':Hp} {Q:Unit→Ws→Prop} (hu:A.units+1<cLine) (I:Inv X pins σ H s) (g:Bb H a y v H') (ry:RelV y u) (rv:RelV v r) (h:∀s',Inv X pins σ H' s'→Q () s') :
  W7 (model X.prog X.w) A (setItem (.ref a) u r) Q E s:=by
 rcases g with⟨kvs,k,e,ey,l,eH⟩|⟨kvs,k,b,e,ey,eb,l,eH⟩
 ·subst ey eH
  obtain⟨z,hd,vs,rel,dd⟩:=Gx I.hok e
  have hz:vs.length≤Wt:=by rw [← rel.length];exact z
  have hl:(putK kvs k v).length≤Wt:=by have:=i7 kvs k v;omega
  refine wpAny_setItem_pairs (hsz:=hz) (sO ry) dd fun h' M0 hs=>h _ ?_
  have he:∃q,h'.get? a=some q:=let ⟨q,_,_,hq,_⟩:=M0;⟨q,hq⟩
  exact z6 I (by rw [e];exact Zy) hs he (Ia hl hd (rel.put k rv) M0)
 ·subst ey eH
  cases (show u=Xg b from ry)
  obtain⟨z,hd,xs,rel,dd⟩:=KA I.hok e
  have hz:xs.length≤Wt:=by rw [← WW rel];exact z
  have hl:(putK kvs k v).length≤Wt:=by have:=i7 kvs k v;omega
  refine wpAny_setItem_heap (hsz:=hz) (tupleKind_room_in1 hu) (pM I.hok eb) dd fun h' M0 hs=>h _ ?_
  obtain⟨q,es,ep,hq,h2,h3,h4,_,h5⟩:=M0
  refine z6 I (by rw [e];exact Zy) hs ⟨q,hq⟩ ⟨hl,hd,_,(rel.put k eb rv).keeps fun c ys ec=>?_,q,es,ep,hq,h2,h3,h4,h5⟩
  rw [aw (wb ec e (fun z=>nomatch z))]
  exact ec
end
section
variable {X:Cx} {pins:List (WA × Obj)} {σ:St} {H:Hp} {s:Ws} {a:WA} {kvs:List (Key × V)} {k:Key} {u:Wr} {A:Xf} {E:Wr→Ws→Prop}
end
def KC (i:Expr):Prop:=∀ov iv,subscripted i false ov iv=operate [ov,iv] (getItem ov iv)
theorem E5 {prog:WM} {w:Xj} {A:Xf} {E:Wr→Ws→Prop} {s:Ws} {env:Env} {value slice:Expr} {pos:Pos} {T id:String} {Q:Wr→Ws→Prop}
  (hl:typeLookup (.type T) "__getitem__"=pure (some (.builtin id))) (hs:KC slice)
  (h:W7 (model prog w) A (eval value env) (fun o s₁=>W7 (model prog w) A (eval slice env) (fun i s₂=>s₂.TypeIs o T∧W7 (model prog w) A (getItem o i) Q E s₂) E s₁) E s) :
  W7 (model prog w) A (eval (.Subscript value slice pos) env) Q E s:=by
 refine Subscript_ (wpAny_mono h (fun o s₁ h₁=>wpAny_mono h₁ (fun i s₂ h₂=>?_) fun _ _ x=>x) fun _ _ x=>x)
 obtain⟨hT,h₂⟩:=h₂
 unfold subscriptTail
 refine Wu ?_
 rw [getitemInPython_of_ne hT.not_modules]
 refine Wu (wpAny_specialOf hT hl ?_)
 have fin:W7 (model prog w) A (subscripted slice false o i) (fun r s₃=>W7 (model prog w) A (letTemporaryGo value o r >>= fun _=>pure r) Q E s₃) E s₂:=by
  rw [hs o i]
  exact wpAny_operating (wpAny_mono h₂ (fun r s₃ h₃=>Wu (wpAny_letTemporaryGo (WI h₃))) fun _ _ x=>x)
 first
  | exact WI (Wu fin)
  | exact Wu (WI (Wu fin))
  | exact Wu fin
theorem wI {X:Cx} {pins:List (WA × Obj)} {σ:St} {H:Hp} {s:Ws} {a:WA} {y:V} {o:Option V} (I:Inv X pins σ H s) (g:iP H a y o):s.TypeIs (.ref a) "dict":=by
 rcases g with⟨kvs,k,e,_,_⟩|⟨kvs,k,b,e,_,_,_⟩
 ·obtain⟨_,_,vs,_,dd⟩:=sQ I.hok e
  exact dd.typeIs
 ·obtain⟨_,_,xs,_,dd⟩:=sR I.hok e
  exact dd.typeIs
def KD (td ty:TE):TE:=fun σ H Q=>td σ H fun x H1=>ty σ H1 fun y H2=>∃a v,x=.ref a∧iP H2 a y (some v)∧Q v H2
def E6 (ty td:TE):TE:=fun σ H Q=>ty σ H fun y H1=>td σ H1 fun x H2=>∃a o,x=.ref a∧iP H2 a y o∧Q (.bl (!o.isSome)) H2
def KH (td ty tv:TE):TS:=fun D σ H=>tv σ H fun v H1=>td σ H1 fun x H2=>ty σ H2 fun y H3=>∃a H4,x=.ref a∧Bb H3 a y v H4∧D.nx σ H4
section
variable {X:Cx} {o i e value:Expr} {pos pos' Kh:Pos} {td ty tv:TE}
theorem E7 (hu:X.A.units+1<cLine) (ho:PE X o td) (hi:PE X i ty) (hs:KC i):PE X (.Subscript o i pos) (KD td ty):=by
 intro pins s σ H Q I h
 refine E5 PySem.F.slot_dict_getitem.lookup hs (thn (ho pins s σ H _ I h) fun u s1 ⟨x,H1,I1,rx,q1⟩=>thn (hi pins s1 σ H1 _ I1 q1) fun iv s2 ⟨y,H2,I2,ry,a,v,ex,g,q2⟩=>?_)
 subst ex
 obtain rfl:u=Xg a:=rx
 exact⟨wI I2 g,Bc hu I2 g ry fun w' s3 I3 yz=>⟨v,H2,I3,yz,q2⟩⟩
theorem mI (hu:X.A.units+1<cLine) (hi:PE X i ty) (ho:PE X o td):PC X .NotIn i o (E6 ty td):=by
 intro pins s σ H Q I h
 refine thn (hi pins s σ H _ I h) fun iv s1 ⟨y,H1,I1,ry,q1⟩=>thn (ho pins s1 σ H1 _ I1 q1) fun u s2 ⟨x,H2,I2,rx,a,ov,ex,g,q2⟩=>?_
 subst ex
 obtain rfl:u=Xg a:=rx
 exact E4 hu I2 g ry fun s3 I3=>⟨.bl (!ov.isSome),H2,I3,rfl,q2⟩
theorem z7 (hu:X.A.units+1<cLine) (ho:PE X o td) (hi:PE X i ty) (hv:PE X value tv) (hs:swapsWith value (some (.Subscript o i pos')) pos.line X.env=pure false) :
  PS X (.Assign [.Subscript o i pos'] value pos) (KH td ty tv):=by
 intro pins s σ H D I h
 refine wpAny_Assign_Subscript (thn (hv pins s σ H _ I h) fun r s1 ⟨v,H1,I1,rv,q1⟩=>thn (ho pins s1 σ H1 _ I1 q1) fun u s2 ⟨x,H2,I2,rx,q2⟩=>thn (hi pins s2 σ H2 _ I2 q2) fun iv s3 ⟨y,H3,I3,ry,a,H4,ex,g,q3⟩=>?_) hs
 subst ex
 obtain rfl:u=Xg a:=rx
 exact Bd hu I3 g ry rv fun s4 I4=>⟨σ,H4,I4,q3⟩
end
theorem C4 {P:WM} {w:Xj} {H:Hp} (h:Heap) (hb:sysModules<h.objs.size):cF P w H (h.push { cls:=.type "dict",data:=.dict #[] }) h.objs.size (.dK []) :=
 ⟨Xs _,beq_eq_false_iff_ne.mpr (Xl (W2 hb)),[],.nil,aaS h⟩
def Ib:TE:=fun _ H Q=>∀p,H p=none→Q (.ref p) (upd H p (.dK []))
section
variable {X:Cx} {pos:Pos}
theorem wJ:PE X (.Dict [] [] pos) Ib:=fun pins s σ H Q I h =>
 wpAny_Dict_empty ⟨.ref s.heap.objs.size,_,I.laid (a:=s.heap.objs.size) (o:=.dK []) (t':=s.toks) (fun _ _ q=>Wx _ q) (Wz _) (C4 s.heap I.big),rfl,h _ (I.hok.fresh (Wz _))⟩
end
def fT (kvs more:List (Key × V)):List (Key × V):=more.foldl (fun acc kv=>putK acc kv.1 kv.2) kvs
structure M2 (X:Cx) (o:Expr) (m:Str) (apos:Pos) (e f:Expr) (cpos:Pos):Prop where
 base:attributeBase o m X.env (eval o X.env)=eval o X.env
 few:((backTo cpos (starEach [e,f] X.env)).all (fun x=>!x.1) && (backToKw cpos (keywordEach [] X.env)).all (fun x=>x.1.isSome)
  && decide (([e,f]:List Expr).length+([]:List Keyword).length+(if ([]:List Keyword).isEmpty then 0 else 1)<30))=true
 line:(apos.endLine == cpos.line)=true
 trees:backTo cpos (starEach [e,f] X.env)=[(false,eval e X.env),(false,eval f X.env)]
def KI (H:Hp) (a:WA):Prop:=(∃kvs,Rd H a (.dK kvs))∨∃kvs,Rd H a (.dT kvs)
theorem E8 {X:Cx} {pins:List (WA × Obj)} {σ:St} {H:Hp} {s:Ws} {a:WA} (I:Inv X pins σ H s) (d:KI H a) :
  s.TypeIs (.ref a) "dict"∧(∀b,Xg a=.ref b→∃ob,s.heap.get? b=some ob∧ob.dict=none)∧(a == sysModules)=false:=by
 rcases d with⟨kvs,e⟩|⟨kvs,e⟩
 ·obtain⟨_,hd,vs,_,dd⟩:=sQ I.hok e
  refine⟨dd.typeIs,fun b q=>?_,hd⟩
  cases q
  obtain⟨ob,_,_,h1,h2,_⟩:=dd
  exact⟨ob,h1,h2.2.1⟩
 ·obtain⟨_,hd,xs,_,dd⟩:=sR I.hok e
  refine⟨dd.typeIs,fun b q=>?_,hd⟩
  cases q
  obtain⟨ob,_,_,h1,h2,_⟩:=dd
  exact⟨ob,h1,h2.2.1⟩
section
variable {X:Cx} {pins:List (WA × Obj)} {σ:St} {H:Hp} {s:Ws} {a:WA} {y d:V} {u r:Wr} {o:Option V} {A:Xf} {E:Wr→Ws→Prop}
theorem Ic {Q:Wr→Ws→Prop} (hu:A.units+1<cLine) (I:Inv X pins σ H s) (g:iP H a y o) (ry:RelV y u) (rd:RelV d r) (h:∀w' s',Inv X pins σ H s'→RelV (o.getD d) w'→Q w' s') :
  W7 (model X.prog X.w) A (call (.builtin "dict.get") [.ref a,u,r]) Q E s:=by
 rcases g with⟨kvs,k,e,ey,l⟩|⟨kvs,k,b,e,ey,eb,l⟩
 ·subst ey
  obtain⟨z,hd,vs,rel,dd⟩:=sQ I.hok e
  refine call_meetsIn Y0 dd.typeIs ZV (ZI _ _ _) (meets_dict_get_default (bq X.prog X.w) a (sO ry) hd r) ⟨_,dd.mapOf,h _ _ (I.tok _) ?_⟩
  rw [l]
  exact(rel.val k).getD rd
 ·subst ey
  cases (show u=Xg b from ry)
  obtain⟨z,hd,xs,rel,dd⟩:=sR I.hok e
  refine call_meetsIn Y0 dd.typeIs ZV (ZI _ _ _) (meetsH_dict_get_default (tupleKind (bq X.prog X.w)) a b hd r) ⟨tupleKind_room_in1 hu,k,xs,pM I.hok eb,dd,h _ _ (I.tok _) ?_⟩
  rw [l]
  exact(rel.val k).getD rd
end
def Ie (td ty tx:TE):TE:=fun σ H Q=>td σ H fun x H1=>∃a,x=.ref a∧KI H1 a∧ty σ H1 fun y H2=>tx σ H2 fun z H3=>∃o,iP H3 a y o∧Q (o.getD z) H3
section
variable {X:Cx} {o e f:Expr} {apos cpos:Pos} {td ty tx:TE}
theorem i8 (hu:X.A.units+1<cLine) (ho:PE X o td) (he:PE X e ty) (hf:PE X f tx) (m:M2 X o "get" apos e f cpos):PE X (.Call (.Attribute o "get" apos) [e,f] [] cpos) (Ie td ty tx):=by
 intro pins s σ H Q I h
 refine wpAny_Call_method m.base m.few m.line PySem.F.plainAttrs_dict Y0 PySem.F.type_dict_get (thn (ho pins s σ H _ I h) fun u s1 ⟨x,H1,I1,rx,a,ex,d,q1⟩=>?_)
 subst ex
 obtain rfl:u=Xg a:=rx
 obtain⟨t1,t2,_⟩:=E8 I1 d
 refine⟨t1,t2,?_⟩
 rw [m.trees]
 refine ZS rfl (Y7 (Zo (thn (he pins s1 σ H1 _ I1 q1) fun iv s2 ⟨y,H2,I2,ry,q2⟩ =>
  Zo (thn (hf pins s2 σ H2 _ I2 q2) fun fv s3 ⟨z,H3,I3,rz,ov,g,q3⟩=>Calls.spliced_nil ?_))))
 exact Ic hu I3 g ry rz fun w' s4 I4 yz=>⟨_,H3,I4,yz,q3⟩
end
section
variable {X:Cx} {pins:List (WA × Obj)} {σ:St} {H:Hp} {s:Ws} {a:WA} {kvs:List (Key × V)} {A:Xf} {E:Wr→Ws→Prop}
end
section
variable {X:Cx} {pins:List (WA × Obj)} {σ:St} {H:Hp} {s:Ws} {a:WA} {y:V} {u:Wr} {A:Xf} {E:Wr→Ws→Prop}
end
end L2
namespace L2
open PySem PySem.Spec PyProof.Rows
section
variable {X:Cx}
end
section
variable {κ:Type} [DecidableEq κ]
theorem E9 {kvs:List (κ × V)} {k:κ} {v:V} (h:bt kvs k=some v):k∈kvs.map (·.1):=by
 have q:(kvs.any fun kv=>decide (kv.1=k))=true:=by
  rw [gE,h]
  all_goals rfl
 obtain⟨p,hp,e⟩:=YA.mp q
 exact Xu.mpr ⟨p,hp,of_decide_eq_true e⟩
end
end L2
namespace L2
open PySem PySem.Spec PyProof.Rows
theorem Ig {prog:WM} {w:Xj} {A:Xf} {E:Wr→Ws→Prop} {s:Ws} {a:WA} {o:Obj} {xs:Array Wr} {k:Nat} {Q:Option Wr→Ws→Prop}
  (hx:s.heap.get? a=some o) (hc:o.cls=.type "list") (KJ:o.data=.seq xs k) (hd:o.dict=none) (hA:A.handled=none)
  (h:∀h' tk e,Heap.NewExcOf s.heap h' e "AttributeError"→Q none { s with heap:=h',toks:=tk }) :
  W7 (model prog w) A (getAttr? (.ref a) "keys") Q E s:=by
 obtain⟨c,VW,dat,sl⟩:=o
 simp only at hc KJ hd
 subst hc KJ hd
 obtain⟨hp,g,d,tk,os⟩:=s
 have hT:∀tk',(⟨hp,g,d,tk',os⟩:Ws).TypeIs (.ref a) "list":=fun _=>⟨_,hx,rfl⟩
 have f1:=sub_AttributeError
 have f3:=Yh.lookup
 have f4:=Yh.bind (.ref a)
 have f5:=am_list_getattr_none
 have hmiss:typeLookup (.type "list") "keys"=pure none:=by rw [typeLookup_type,builtinLookup_eq_fast];kernel_rfl
 unfold getAttr? getAttrBy? getAttrBy
 repeat (any_goals (first|assumption|exact hT _|((with_reducible show W7 _ _ (call (YN "list.__getattribute__") _ _) _ _ _);refine call_meets Yh (hT _) am_entry_list_getattribute (PySem.F.args_list_getattribute_2 _ _) (meets_getattribute_miss_list a xs k sl "keys" _ hmiss (by decide +kernel) (by decide)) ⟨hx,hA,fun h' tk' e hx'=>?_⟩)|wp_step))
 obtain⟨t',u',he⟩:=hx'.there
 show W7 _ _ (getattributeRaised _ _ _ _ _ _ _) _ _ _
 unfold getattributeRaised
 repeat (any_goals (first|assumption|wp_step))
 exact h _ _ _ hx'.of
end L2
namespace L2
open PySem PySem.Spec PyProof.Rows
theorem entry_dul:entryFor table "dict.update.loop"=some Builtin.«dict.update.loop»:=entryFor_of_tree (by kernel_rfl)
theorem plain_dul:plainId "dict.update.loop"=true:=by decide +kernel
theorem paired_at {α β:Type} {F:α→β→Prop}:∀{l1:List α} {l2:List β},Paired F l1 l2→∀i (h1:i<l1.length) (h2:i<l2.length),F l1[i] l2[i]
 | _,_,.cons h _,0,_,_=>h
 | _,_,.cons _ t,i+1,h1,h2=>paired_at t i (by simpa using h1) (by simpa using h2)
theorem pN:∀(ps:List (Key × V)),(fT [] ps).length≤ps.length:=by
 have key:∀(ps acc:List (Key × V)),(fT acc ps).length≤acc.length+ps.length:=by
  intro ps
  induction ps with
  | nil=>intro acc;exact Wz _
  | cons p r ih =>
   intro acc
   have z:=ih (putK acc p.1 p.2)
   have z2:(putK acc p.1 p.2).length≤acc.length+1:=i7 acc p.1 p.2
   show(fT (putK acc p.1 p.2) r).length≤_
   rw [WC]
   omega
 intro ps
 have z:=key ps []
 simpa using z
section
variable {X:Cx} {pins:List (WA × Obj)} {σ:St} {H:Hp} {s:Ws} {a it l:WA} {ys:List V} {its:List Wr} {ps:List (Key × V)}
def z8 (K:Wo) (H:Hp) (ps:List (Key × V)) (ys:List V):Prop:=Paired (fun(p:Key × V) (y:V)=>∃t,y=.ref t∧da K H t [kV p.1,p.2]) ps ys
theorem Fb {A:Xf} {R:Result→Ws→Prop} (I:Inv X pins σ H s) (hh:A.handled=none) (hl:s.heap.IsList l its.toArray) (rv:Vals ys its) (hP:z8 X.K H ps ys) (hlen:ps.length≤100000)
  (ha:s.heap.objs.size≤a) (Oy:s.heap.objs.size≤it) (hne:a≠it)
  (fin:∀h' tk vs,(∀b o,s.heap.get? b=some o→h'.get? b=some o)→h'.DictOf (bq X.prog X.w) a vs→KV (fT [] ps) vs→R (.ok (.ret .none)) { s with heap:=h',toks:=tk }) :
  ∀(k i:Nat) (h':Heap) (tk:Nat) (vs:List (Key × Wr)),its.length - i=k→i≤its.length→(∀b o,s.heap.get? b=some o→h'.get? b=some o)→h'.IsListIter it l i→h'.DictOf (bq X.prog X.w) a vs→KV (fT [] (ps.take i)) vs →
   W7 (model X.prog X.w) A.in1 (Builtin.«dict.update.loop» ⟨[.ref a,.ref it,rawInt (i:Int),.none],[]⟩) (fun fin s'=>match fin with|.done f=>R (.ok f) s'|.again c'=>c'.quiet=true∧codeAny (model X.prog X.w) A c' R s') (fun e s'=>R (.error e) s') { s with heap:=h',toks:=tk }:=by
 have Fd:=rv.length
 have oU:=WW hP
 have lt:∀b o,s.heap.get? b=some o→b≠a∧b≠it:=fun b o q=>by
  exact⟨W2 (WR (WH q) ha),W2 (WR (WH q) Oy)⟩
 obtain⟨ol,Rh,yG⟩:=id hl
 intro k
 induction k with
 | zero =>
  intro i h' tk vs hk hi kp hit hD hK
  obtain rfl:i=its.length:=by omega
  unfold Builtin.«dict.update.loop»
  dsimp only [rawInt]
  refine Wu (wpAny_pyNext_list_end (s:={ s with heap:=h',toks:=tk }) (A:=A.in1) hh hit (show h'.IsList l its.toArray from⟨ol,kp _ _ Rh,yG⟩) (by simp) fun h2 KL=>?_)
  dsimp only
  have mw:h2.DictOf (bq X.prog X.w) a vs:=hD.extBut KL hne
  show W7 _ _ (Builtin.Dict.addKeywords a [] >>= _) _ _ _
  refine Wu (WI (WI ?_))
  exact fin h2 tk vs (fun b o q=>KL b o (lt b o q).2 (kp b o q)) mw (by rw [← Fd,← oU,XN] at hK;exact hK)
 | succ k ih =>
  intro i h' tk vs hk hi kp hit hD hK
  have Tz:i<its.length:=by omega
  have Ri:i<ps.length:=by omega
  unfold Builtin.«dict.update.loop»
  dsimp only [rawInt]
  refine Wu (wpAny_pyNext_list_item (s:={ s with heap:=h',toks:=tk }) (x:=its[i]) hit (show h'.IsList l its.toArray from⟨ol,kp _ _ Rh,yG⟩) (by simp [Tz]) fun h1 KN MW=>?_)
  dsimp only
  have Jw:∀b o,s.heap.get? b=some o→h1.get? b=some o:=fun b o q=>(MW.2 b (lt b o q).2).trans (kp b o q)
  have I1:Inv X pins σ H { s with heap:=h1,toks:=tk }:=I.kept Jw
  have M1:h1.DictOf (bq X.prog X.w) a vs:=hD.sameBut MW hne
  obtain⟨u1,f1,q1⟩:=rv.get (i:=i) (x:=ys[i]'(by omega)) (by simp)
  have eu:its[i]=u1:=(Wv.mp f1).2
  obtain⟨t,et,hq⟩:∃t,ys[i]'(by omega)=.ref t∧da X.K H t [kV (ps[i]).1,(ps[i]).2]:=by
   have z:=hP
   unfold z8 at z
   exact paired_at z i Ri (by omega)
  rw [et] at q1
  have TC:its[i]=.ref t:=by rw [eu];exact q1
  rw [TC]
  obtain⟨VX,rt,pl,_⟩:=I1.tuple hq
  obtain⟨uk,uv,rfl,rk,TF⟩:=vals2 rt
  obtain⟨ot,Rj,TH,n,TJ⟩:=id pl
  have TK:Shared.TypeIs { s with heap:=h1,toks:=tk } (.ref t) "tuple":=⟨ot,Rj,TH⟩
  refine Wu (wpAny_holding (Wu ?_))
  have TM:∀{E':Wr→Ws→Prop} {Q':List Wr→Ws→Prop},Q' [uk,uv] { s with heap:=h1,toks:=tk }→W7 (model X.prog X.w) A.in1 (ZW (.ref t)) Q' E' { s with heap:=h1,toks:=tk }:=fun {E' Q'} hq'=>by
   unfold ZW
   refine Wu (wpAny_typeOf TK ?_)
   rw [if_pos (by decide)]
   refine Wu (wpAny_seqItems Rj TJ (WI ?_))
   exact hq'
  refine wpAny_tryCatch (TM ?_)
  dsimp only
  have hsz:vs.length≤Wt:=by
   have z:=hK.length
   have z2:=pN (ps.take i)
   rw [WV] at z2
   exact W5 (show vs.length≤100000 by omega) (show 100000≤Wt by rw [XQ];decide)
  refine wpAny_holding (wpAny_dictSet_pairs (hsz:=hsz) (sO rk) M1 fun h2 mw KO=>?_)
  have Gy:∀b o,s.heap.get? b=some o→h2.get? b=some o:=fun b o q=>(KO.2 b (lt b o q).1).trans (Jw b o q)
  have Oz:h2.IsListIter it l (i+1):=by
   obtain⟨o,ho,r⟩:=KN
   exact⟨o,(KO.2 it (Xl hne)).trans ho,r⟩
  refine WI ?_
  refine⟨plainId_quiet plain_dul _,codeAny_builtin entry_dul ?_⟩
  rw [aaj plain_dul _]
  refine ih (i+1) h2 (tk+1) _ (by omega) (by omega) Gy Oz mw ?_
  rw [WB Ri]
  unfold fT
  rw [List.foldl_append]
  exact hK.put _ TF
theorem oA (hc:X.calm=true):dZ X (.type "dict") (fun xs H Q=>∃(l:WA) (ys:List V) (ps:List (Key × V)),xs=[.ref l]∧H l=some (.lst ys)∧z8 X.K H ps ys∧ps.length≤100000∧∀d,H d=none→Q (.ref d) (upd H d (.dK (fT [] ps)))):=by
 intro pins s σ H xs us Q I r h
 obtain⟨l,ys,ps,rfl,hl,hP,hlen,q⟩:=h
 obtain⟨u,rfl,ru⟩:=vals1 r
 cases (show u=Xg l from ru)
 have hh:=I.ok.hd hc
 obtain⟨hz,its,n,rv,hg⟩:=(show cF X.prog X.w H s.heap l (.lst ys) from I.hok l _ hl)
 have hf:H s.heap.objs.size=none:=I.hok.fresh (Wz _)
 refine callType_codes (Q₁:=fun obj s₁=>obj=.ref s.heap.objs.size∧s₁={ s with heap:=s.heap.push { cls:=.type "dict",data:=.dict #[] } }) PySem.F.kt_called_dict (PySem.F.kt_typeCall_dict_1 _) PySem.F.entry_dict_init (kt_code_dict_new _ ⟨rfl,rfl⟩) ?_
 rintro obj s₁ ⟨rfl,rfl⟩
 have ui:(s.heap.push { cls:=.type "dict",data:=.dict #[] }).DictOf (bq X.prog X.w) s.heap.objs.size []:=aaS s.heap
 refine⟨ui.typeIs,PySem.F.args_dict_init_2 _ _,?_⟩
 unfold Builtin.«dict.__init__»
 refine Wu ?_
 unfold Builtin.Dict.selfAndRest
 refine Wu (wpAny_notOrdered_dict ui.typeIs ?_)
 show W7 _ _ (pure (s.heap.objs.size,[Xg l])) _ _ _
 refine WI ?_
 show W7 _ _ (ZJ "dict.__init__" s.heap.objs.size (.ref l) [] .none) _ _ _
 unfold ZJ
 have OA:(s.heap.push { cls:=.type "dict",data:=.dict #[] }).get? l=some { cls:=.type "list",data:=.seq its.toArray n }:=Wx _ hg
 refine Wu (wpAny_typeOf (T:="list") ⟨_,OA,rfl⟩ ?_)
 rw [if_pos (by decide)]
 refine Wu (Ig OA rfl rfl rfl hh fun h1 Rk e hx=>?_)
 rw [if_pos (show(none:Option Wr).isNone=true from rfl)]
 refine Wu (wpAny_rule ?_)
 have TN:=hx.keeps _ _ OA
 have hd2:h1.DictOf (bq X.prog X.w) s.heap.objs.size []:=by
  obtain⟨o,es,ep,ho,r⟩:=ui
  exact⟨o,es,ep,hx.keeps _ _ ho,r⟩
 have KP:s.heap.objs.size<h1.objs.size:=by
  obtain⟨o,es,ep,ho,r⟩:=hd2
  exact WH ho
 have mJ:h1.IsList l its.toArray:=⟨_,TN,rfl,n,rfl⟩
 refine Wu (wpAny_pyIter_list (s:={ s with heap:=h1,toks:=Rk }) mJ ?_)
 refine WI ⟨plainId_quiet plain_dul _,codeAny_builtin entry_dul ?_⟩
 rw [aaj plain_dul _]
 have TQ:∀b o,s.heap.get? b=some o→(h1.push { cls:=.type "list_iterator",data:=.fields #[.ref l,.int 0 0] }).get? b=some o:=fun b o q=>Wx _ (hx.keeps _ _ (Wx _ q))
 refine Fb (A:=X.A.in1) (its:=its) (a:=s.heap.objs.size) (it:=h1.objs.size) I hh ⟨_,hg,rfl,n,rfl⟩ rv hP hlen (Wz _) (Z0 KP) (W2 KP) (fun h' tk vs kp hD hK=>?_)
  its.length 0 (h1.push { cls:=.type "list_iterator",data:=.fields #[.ref l,.int 0 0] }) Rk [] (by omega) (Xs _) TQ ⟨_,Xb _ rfl,rfl,rfl⟩ (hd2.push _) .nil
 refine⟨rfl,.ref s.heap.objs.size,upd H s.heap.objs.size (.dK (fT [] ps)),I.laid (t':=tk) kp (Wz _) ?_,rfl,q _ hf⟩
 refine⟨W5 (pN ps) (W5 hlen (by rw [XQ];decide)),?_,vs,hK,hD⟩
 exact beq_eq_false_iff_ne.mpr (Nat.ne_of_gt I.big)
end
end L2
namespace L2
open PySem PySem.Spec PyProof.Rows
section
variable {X:Cx}
theorem KQ {P:WM} {w:Xj} {k:Key} {u:Wr} (r:(bq P w).is k u=true):RelV (kV k) u:=by
 rcases bK (k:=k) (v:=u) r with⟨i,t,rfl,rfl⟩|⟨x,t,rfl,rfl⟩
 ·exact⟨t,rfl⟩
 ·exact⟨t,rfl⟩
theorem z9:∀{xs:List V} {us:List Wr},us.length=xs.length→(∀(j:Nat) (v:Wr),us[j]?=some v→∃x,xs[j]?=some x∧RelV x v)→Vals xs us
 | [],[],_,_=>.nil
 | x::xs,u::us,hl,h=>by
  obtain⟨y,e,r⟩:=h 0 u rfl
  cases e
  exact .cons r (z9 (by simpa using hl) fun j v e=>h (j+1) v (by simpa using e))
theorem pO (hc:X.calm=true):dZ X (.type "list") (fun xs H Q=>∃(d:WA) (kvs:List (Key × V)),xs=[.ref d]∧H d=some (.dK kvs)∧∀l,H l=none→Q (.ref l) (upd H l (.lst (kvs.map fun p=>kV p.1)))):=by
 intro pins s σ H xs us Q I r h
 obtain⟨d,kvs,rfl,hd,q⟩:=h
 obtain⟨u,rfl,ru⟩:=vals1 r
 cases (show u=Xg d from ru)
 obtain⟨hz,lo,vs,hK,hD⟩:=Gx I.hok hd
 obtain⟨o,es,ep,ho,rr⟩:=hD
 have hf:H s.heap.objs.size=none:=I.hok.fresh (Wz _)
 have hl:=hK.length
 refine PySem.W.kdl_call (PySem.W.kdl_dict (knd:=bq X.prog X.w) (kvs:=vs) (ep:=ep) lo) (I.ok.hd hc) ⟨o,es,ho,rr⟩ (by omega) fun h' tk acc c' kp hg C5=>?_
 refine⟨.ref s.heap.objs.size,upd H s.heap.objs.size (.lst (kvs.map fun p=>kV p.1)),I.laid (t':=tk) kp (Wz _) ?_,rfl,q _ hf⟩
 refine⟨by rw [Lm9];exact hz,acc.toList,c',z9 ?_ fun j v e=>?_,by simpa using hg⟩
 ·rw [Lm9,YB,C5.1,hl]
 ·obtain⟨k,x,e1,e2⟩:=C5.2 j v (by rw [← Array.getElem?_toList];exact e)
  have ek:(kvs.map (·.1))[j]?=some k:=by
   rw [hK.keys,WX,e1]
   rfl
  rw [WX] at ek
  cases e3:kvs[j]? with
  | none=>rw [e3] at ek;cases ek
  | some p =>
   rw [e3] at ek
   have e4:p.1=k:=Xe ek
   exact⟨kV p.1,by rw [WX,e3];rfl,by rw [e4];exact KQ e2⟩
def Fe (K:Wo):V→List V→Hp→VK→Prop:=fun x vs H Q=>∃(p:WA) (xs:List V) (y:V) (j:Nat),x=.ref p∧vs=[y]∧da K H p xs∧gy y=true∧xs.all gy=true∧(∃z,xs[j]?=some z∧Cf z y=true)∧(∀m z,m<j→xs[m]?=some z→Cf z y=false)∧Q (.int j) H
theorem C6:Ju X "tuple.index" (Fe X.K):=by
 intro pins s σ H x vs v us Q I rx rv h
 obtain⟨p,xs,y,j,rfl,rfl,hq,fy,fx,⟨z,ez,hz⟩,cy,q⟩:=h
 cases (show v=Xg p from rx)
 obtain⟨u,rfl,ru⟩:=vals1 rv
 obtain⟨its,r,pl,_⟩:=I.tuple hq
 obtain⟨⟨oc,od,dat,sl⟩,ho,hc,n,hd⟩:=id pl
 simp only at hc hd
 subst hc hd
 have hl:=r.length
 have hj:j<its.toArray.size:=by
  have:=(Wv.mp ez).1
  simp
  omega
 have at_:∀m z,xs[m]?=some z→∃w,its[m]?=some w∧RelV z w:=fun m z e=>r.get e
 have flat:∀z∈xs,gy z=true:=Xa.mp fx
 refine call_meets ZA pl.typeIs PySem.F.entry_tuple_index (PySem.F.args_tuple_index_2 _ _) (ri p its.toArray n od sl u (yg y) j hj ?_ ?_) ⟨ho,fun w hw=>gz ru fy r fx w (by simpa using hw),⟨.int j,H,I.tok _,⟨_,rfl⟩,q⟩⟩
 ·obtain⟨w,ew,yz⟩:=at_ j z ez
  have e:its.toArray[j]=w:=by
   have:=(Wv.mp ew).2
   simpa using this
  rw [e,ub yz (flat z (Xy ez))]
  exact hz
 ·intro m hm TR
  have hm':m<xs.length:=by simp at hm;omega
  obtain⟨w,ew,yz⟩:=at_ m xs[m] (Ge9 hm')
  have e:its.toArray[m]=w:=by
   have:=(Wv.mp ew).2
   simpa using this
  rw [e,ub yz (flat _ (WT hm'))]
  exact cy m _ TR (Ge9 hm')
end
end L2
namespace bB
open PySem
abbrev cX:Str:="abcdefghijklmnopqrstuvwxyz"
abbrev dJ:Str:="ABCDEFGHIJKLMNOPQRSTUVWXYZ"
abbrev Ff:Str:="0123456789"
def aG (c:Nat):Bool:=decide (c∈cX.cps.toList) || (decide (c∈dJ.cps.toList) || decide (c∈Ff.cps.toList))
def shut (cur:List Nat) (r:List (List Nat)):List (List Nat):=if cur=[] then r else cur::r
def a6:List Nat→List Nat→List (List Nat)
 | [],cur=>shut cur []
 | c::r,cur=>if aG c=true then a6 r (cur++[c]) else shut cur (if c=32 then a6 r [] else [c]::a6 r [])
def toks (l:List Nat):List (List Nat):=a6 l []
theorem pP:∀(n r cur:List Nat),n.all aG=true→a6 (n++r) cur=a6 r (cur++n)
 | [],r,cur,_=>by simp
 | c::n,r,cur,h=>by
  rw [XJ,WG] at h
  rw [ZP]
  show(if aG c=true then a6 (n++r) (cur++[c]) else _)=_
  rw [if_pos h.1,pP n r _ h.2,WK]
  rfl
def Gz:List Nat→Prop
 | []=>True
 | c::_=>aG c=false
theorem yH {r cur:List Nat} (hs:Gz r) (hc:cur≠[]):a6 r cur=cur::toks r:=by
 cases r with
 | nil =>
  show shut cur []=cur::shut [] []
  unfold shut
  rw [if_neg hc,if_pos rfl]
 | cons c r =>
  have hs':aG c=false:=hs
  show(if aG c=true then _ else shut cur _)=cur::(if aG c=true then _ else shut [] _)
  rw [hs',if_neg WE,if_neg WE]
  unfold shut
  rw [if_neg hc,if_pos rfl]
theorem mK {n r:List Nat} (hn:n.all aG=true) (h0:n≠[]) (hs:Gz r):toks (n++r)=n::toks r:=by
 unfold toks
 rw [pP n r [] hn,YO,yH hs h0]
 rfl
theorem wK:aG 32=false:=by decide +kernel
theorem pQ (r:List Nat):toks (32::r)=toks r:=by
 show(if aG 32=true then a6 r ([]++[32]) else shut [] (if (32:Nat)=32 then a6 r [] else [32]::a6 r []))=a6 r []
 rw [wK,if_neg WE,if_pos rfl]
 rfl
def a8 (l:List Nat):Nat:=(l.takeWhile aG).length
theorem pR {l:List Nat} (h:a8 l≠0):toks l=l.take (a8 l)::toks (l.drop (a8 l)):=by
 have e:l=l.takeWhile aG++l.dropWhile aG:=(List.takeWhile_append_dropWhile).symm
 have et:l.take (a8 l)=l.takeWhile aG:=by
  unfold a8
  conv=>lhs;arg 2;rw [e]
  rw [List.take_left']
  rfl
 have ed:l.drop (a8 l)=l.dropWhile aG:=by
  unfold a8
  conv=>lhs;arg 2;rw [e]
  rw [List.drop_left']
  rfl
 rw [et,ed]
 conv=>lhs;rw [e]
 refine mK ?_ ?_ ?_
 ·exact List.all_takeWhile
 ·intro z
  unfold a8 at h
  rw [z] at h
  exact h rfl
 ·cases q:l.dropWhile aG with
  | nil=>trivial
  | cons c r =>
   have z:=List.head_dropWhile_not (p:=aG) (l:=l) (by rw [q];simp)
   simp only [q,List.head_cons] at z
   exact z
theorem uj {c:Nat} {r:List Nat} (h:a8 (c::r)=0):aG c=false:=by
 unfold a8 at h
 rw [Zc] at h
 cases q:aG c with
 | false=>rfl
 | true=>rw [q] at h;simp at h
def aR (p:List Nat):Bool:=decide (1≤p.length) && (decide (p.length≤12) && p.all aG)
def eT:List (List Nat)→Option (List (List Nat) × Nat)
 | n::m::r=>if aR n=true then (if m=[41] then some ([n],2) else if m=[44] then (eT r).map fun q=>(n::q.1,q.2+2) else none) else none
 | _=>none
def between:List (List Nat)→List (List Nat)
 | []=>[]
 | [a]=>[a,[41]]
 | a::r=>a::[44]::between r
end bB
namespace Bk
open PySem L2 bB
abbrev Cs:=List Nat
abbrev S (p:Cs):Str:=⟨p.toArray⟩
abbrev tx (p:Cs):V:=.str (S p)
theorem ba (p:Cs):(S p).cps.toList=p:=by simp
theorem rj (x:Str):S x.cps.toList=x:=by cases x;simp
theorem aV (p:Cs):(S p).length=p.length:=by simp [Str.length]
theorem ej (x:Str):x.cps.toList.length=x.length:=by simp [Str.length]
theorem sS {a b:Cs} (h:S a=S b):a=b:=by
 have e:=congrArg (fun s:Str=>s.cps.toList) h
 simpa using e
theorem C7 {a b:Cs} (h:tx a=tx b):a=b:=by
 have z:S a=S b:=by injection h
 exact sS z
theorem C8 (a b:Cs):decide (tx a=tx b)=decide (a=b):=by
 rw [decide_eq_decide]
 exact⟨C7,fun e=>by rw [e]⟩
structure Fc where
 k:Cs
 as:List Cs
structure Kd where
 n:Cs
 c:Nat
 l:Bool
structure Lk where
 same:Bool
 l:Cs
 r:Cs
structure Rl where
 title:Cs
 take:List Fc
 keep:List Fc
 cz:List Lk
 put:List Fc
 tell:List (Cs × Cs)
structure Kp (H0 H H':Hp):Prop where
 new:∀b o,H0 b=none→H b=some o→H' b=some o
 tup:∀b xs,H b=some (.tup xs)→H' b=some (.tup xs)
 oR:∀b o u,H b=some (.oR o u)→H' b=some (.oR o u)
 oW:∀b,H' b=none→H b=none
theorem Kp.trans {H0 H H1 H2:Hp} (a:Kp H0 H H1) (b:Kp H0 H1 H2):Kp H0 H H2 :=
 ⟨fun c o n h=>b.new c o n (a.new c o n h),fun c xs h=>b.tup c xs (a.tup c xs h),fun c o u h=>b.oR c o u (a.oR c o u h),fun c h=>a.oW c (b.oW c h)⟩
theorem Kp.same {H0 H H':Hp} (s:aj H H'):Kp H0 H H':=⟨fun b o _ h=>s b o h,fun b xs h=>s b _ h,fun b o u h=>s b _ h,fun b h=>by
 cases e:H b with
 | none=>rfl
 | some o=>rw [s b o e] at h;cases h⟩
theorem Kp.upd {H0 H:Hp} {l:WA} {o o' u0:HO} (h0:H0 l=some u0) (h:H l=some o) (nt:∀xs,o≠.tup xs) (nf:∀ob u,o≠.oR ob u):Kp H0 H (upd H l o'):=by
 refine⟨fun b u n e=>?_,fun b xs e=>?_,fun b ob u e=>?_,fun b e=>?_⟩
 ·rw [aw (fun z=>by rw [z,h0] at n;cases n)];exact e
 ·rw [aw (fun z=>by rw [z,h] at e;exact nt xs (Xe e))];exact e
 ·rw [aw (fun z=>by rw [z,h] at e;exact nf ob u (Xe e))];exact e
 ·by_cases z:b=l
  ·rw [z,ae] at e;cases e
  ·rw [aw z] at e;exact e
theorem Kp.bw {H0 H1 H H':Hp} (k:Kp H0 H H') (d:∀b,H1 b=none→H0 b=none):Kp H1 H H':=⟨fun b o n h=>k.new b o (d b n) h,k.tup,k.oR,k.oW⟩
theorem da.keep {K:Wo} {H0 H H':Hp} (k:Kp H0 H H') {a:WA} {xs:List V} (h:da K H a xs):da K H' a xs:=by
 rcases h with(h|⟨o,h⟩)|h
 ·exact .inl (.inl (k.tup _ _ h))
 ·exact .inl (.inr ⟨o,k.oR _ _ _ h⟩)
 ·exact .inr h
def Fact (K:Wo) (H:Hp) (f:Fc) (v:V):Prop:=∃t t2,v=.ref t∧da K H t [tx f.k,.ref t2]∧da K H t2 (f.as.map tx)
def Kind (K:Wo) (H:Hp) (k:Kd) (v:V):Prop:=∃t,v=.ref t∧da K H t [tx k.n,.int k.c,.bl k.l]
def Pair (K:Wo) (H:Hp) (p:Cs × Cs) (v:V):Prop:=∃t,v=.ref t∧da K H t [tx p.1,tx p.2]
theorem Fact.keep {K:Wo} {H0 H H':Hp} {f:Fc} {v:V} (k:Kp H0 H H') (h:Fact K H f v):Fact K H' f v:=by
 obtain⟨t,t2,e,h1,h2⟩:=h
 exact⟨t,t2,e,da.keep k h1,da.keep k h2⟩
theorem Kind.keep {K:Wo} {H0 H H':Hp} {f:Kd} {v:V} (k:Kp H0 H H') (h:Kind K H f v):Kind K H' f v:=by
 obtain⟨t,e,h1⟩:=h
 exact⟨t,e,da.keep k h1⟩
theorem Pair.keep {K:Wo} {H0 H H':Hp} {p:Cs × Cs} {v:V} (k:Kp H0 H H') (h:Pair K H p v):Pair K H' p v:=by
 obtain⟨t,e,h1⟩:=h
 exact⟨t,e,da.keep k h1⟩
def qZ (α:Type) (R:Hp→α→V→Prop) (H0 H:Hp) (v:V) (xs:List α):Prop:=∃l vs,v=.ref l∧H0 l=none∧H l=some (.lst vs)∧Paired (R H) xs vs
theorem qZ.keep {α:Type} {R:Hp→α→V→Prop} {H0 H H':Hp} {v:V} {xs:List α} (k:Kp H0 H H') (hR:∀a u,R H a u→R H' a u) (h:qZ α R H0 H v xs):qZ α R H0 H' v xs:=by
 obtain⟨l,vs,e,n,h1,h2⟩:=h
 exact⟨l,vs,e,n,k.new _ _ n h1,L2.Paired.cP h2 hR⟩
theorem qZ.bw {α:Type} {R:Hp→α→V→Prop} {H0 H1 H:Hp} {v:V} {xs:List α} (d:∀b,H1 b=none→H0 b=none) (h:qZ α R H1 H v xs):qZ α R H0 H v xs:=by
 obtain⟨l,vs,e,n,h1,h2⟩:=h
 exact⟨l,vs,e,d l n,h1,h2⟩
def OB (C:WA) (H0 H:Hp) (v:V) (F:List (Str × V)→Prop):Prop:=∃a dx fs,v=.ref a∧H0 a=none∧H a=some (.ins C dx fs)∧F fs
structure Cl where
 same:WA
 unlike:WA
 rule:WA
 book:WA
def Cl.look (c:Cl) (b:Bool):WA:=if b=true then c.same else c.unlike
def jR (c:Cl) (H0 H:Hp) (k:Lk) (v:V):Prop:=OB (c.look k.same) H0 H v fun fs=>fs.lookup ("left":Str)=some (tx k.l)∧fs.lookup ("right":Str)=some (tx k.r)∧fs.lookup ("holds":Str)=none∧fs.lookup ("word":Str)=none
theorem jR.keep {c:Cl} {H0 H H':Hp} {x:Lk} {v:V} (k:Kp H0 H H') (h:jR c H0 H x v):jR c H0 H' x v:=by
 obtain⟨a,dx,fs,e,n,h1,h2⟩:=h
 exact⟨a,dx,fs,e,n,k.new _ _ n h1,h2⟩
def great (x:Cs):Bool:=decide (x.headD 0∈dJ.cps.toList)
def once:List Cs→List Cs→List Cs
 | [],acc=>acc
 | x::r,acc=>once r (if x∈acc then acc else acc++[x])
def opens (fs:List Fc):List Cs:=once ((fs.flatMap (·.as)).filter great) []
def Facts (K:Wo):=qZ Fc (Fact K)
def Pairs (K:Wo):=qZ (Cs × Cs) (Pair K)
def Kinds (K:Wo):=qZ Kd (Kind K)
def nI (H0 H:Hp) (v:V) (xs:List Cs):Prop:=∃l,v=.ref l∧H0 l=none∧H l=some (.lst (xs.map tx))
def Looks (c:Cl) (H0 H:Hp) (v:V) (xs:List Lk):Prop:=∃l vs,v=.ref l∧H0 l=none∧H l=some (.lst vs)∧Paired (jR c H0 H) xs vs
structure lI (K:Wo) (c:Cl) (H0 H:Hp) (r:Rl) (fs:List (Str × V)):Prop where
 title:fs.lookup ("title":Str)=some (tx r.title)
 taken:∃v,fs.lookup ("taken":Str)=some v∧Facts K H0 H v r.take
 kept:∃v,fs.lookup ("kept":Str)=some v∧Facts K H0 H v r.keep
 cz:∃v,fs.lookup ("looks":Str)=some v∧Looks c H0 H v r.cz
 given:∃v,fs.lookup ("given":Str)=some v∧Facts K H0 H v r.put
 told:∃v,fs.lookup ("told":Str)=some v∧Pairs K H0 H v r.tell
 names:∃v,fs.lookup ("names":Str)=some v∧nI H0 H v (opens (r.take++r.keep))
 calls:fs.lookup ("calls":Str)=none
def gF (K:Wo) (c:Cl) (H0 H:Hp) (r:Rl) (v:V):Prop:=OB c.rule H0 H v (lI K c H0 H r)
theorem nI.keep {H0 H H':Hp} {v:V} {xs:List Cs} (k:Kp H0 H H') (h:nI H0 H v xs):nI H0 H' v xs:=by
 obtain⟨l,e,n,h1⟩:=h
 exact⟨l,e,n,k.new _ _ n h1⟩
theorem Looks.keep {c:Cl} {H0 H H':Hp} {v:V} {xs:List Lk} (k:Kp H0 H H') (h:Looks c H0 H v xs):Looks c H0 H' v xs:=by
 obtain⟨l,vs,e,n,h1,h2⟩:=h
 exact⟨l,vs,e,n,k.new _ _ n h1,L2.Paired.cP h2 fun _ _ z=>z.keep k⟩
theorem Facts.keep {K:Wo} {H0 H H':Hp} {v:V} {xs:List Fc} (k:Kp H0 H H') (h:Facts K H0 H v xs):Facts K H0 H' v xs:=qZ.keep k (fun _ _ z=>z.keep k) h
theorem Pairs.keep {K:Wo} {H0 H H':Hp} {v:V} {xs:List (Cs × Cs)} (k:Kp H0 H H') (h:Pairs K H0 H v xs):Pairs K H0 H' v xs:=qZ.keep k (fun _ _ z=>z.keep k) h
theorem Kinds.keep {K:Wo} {H0 H H':Hp} {v:V} {xs:List Kd} (k:Kp H0 H H') (h:Kinds K H0 H v xs):Kinds K H0 H' v xs:=qZ.keep k (fun _ _ z=>z.keep k) h
theorem lI.keep {K:Wo} {c:Cl} {H0 H H':Hp} {r:Rl} {fs:List (Str × V)} (k:Kp H0 H H') (h:lI K c H0 H r fs):lI K c H0 H' r fs:=by
 obtain⟨h1,⟨v2,e2,h2⟩,⟨v3,e3,h3⟩,⟨v4,e4,h4⟩,⟨v5,e5,h5⟩,⟨v6,e6,h6⟩,⟨v7,e7,h7⟩,h8⟩:=h
 exact⟨h1,⟨v2,e2,h2.keep k⟩,⟨v3,e3,h3.keep k⟩,⟨v4,e4,h4.keep k⟩,⟨v5,e5,h5.keep k⟩,⟨v6,e6,h6.keep k⟩,⟨v7,e7,h7.keep k⟩,h8⟩
theorem gF.keep {K:Wo} {c:Cl} {H0 H H':Hp} {r:Rl} {v:V} (k:Kp H0 H H') (h:gF K c H0 H r v):gF K c H0 H' r v:=by
 obtain⟨a,dx,fs,e,n,h1,h2⟩:=h
 exact⟨a,dx,fs,e,n,k.new _ _ n h1,h2.keep k⟩
def Rules (K:Wo) (c:Cl) (H0 H:Hp) (v:V) (xs:List Rl):Prop:=∃l vs,v=.ref l∧H0 l=none∧H l=some (.lst vs)∧Paired (gF K c H0 H) xs vs
structure KR (K:Wo) (c:Cl) (H0 H:Hp) (ks:List Kd) (rs:List Rl) (fs:List (Str × V)):Prop where
 kinds:∃v,fs.lookup ("kinds":Str)=some v∧Kinds K H0 H v ks
 rules:∃v,fs.lookup ("rules":Str)=some v∧Rules K c H0 H v rs
def wL (K:Wo) (c:Cl) (H0 H:Hp) (ks:List Kd) (rs:List Rl) (v:V):Prop:=OB c.book H0 H v (KR K c H0 H ks rs)
theorem Rules.keep {K:Wo} {c:Cl} {H0 H H':Hp} {v:V} {xs:List Rl} (k:Kp H0 H H') (h:Rules K c H0 H v xs):Rules K c H0 H' v xs:=by
 obtain⟨l,vs,e,n,h1,h2⟩:=h
 exact⟨l,vs,e,n,k.new _ _ n h1,L2.Paired.cP h2 fun _ _ z=>z.keep k⟩
theorem wL.keep {K:Wo} {c:Cl} {H0 H H':Hp} {ks:List Kd} {rs:List Rl} {v:V} (k:Kp H0 H H') (h:wL K c H0 H ks rs v):wL K c H0 H' ks rs v:=by
 obtain⟨a,dx,fs,e,n,h1,⟨v2,e2,h2⟩,⟨v3,e3,h3⟩⟩:=h
 exact⟨a,dx,fs,e,n,k.new _ _ n h1,⟨v2,e2,h2.keep k⟩,⟨v3,e3,h3.keep k⟩⟩
def aH (p:Cs):Bool:=aR p && decide (p.headD 0∈cX.cps.toList)
inductive wM:List Cs→Fc→Prop
 | bare {k:Cs} (hk:aH k=true):wM [k] ⟨k,[]⟩
 | empty {k:Cs} (hk:aH k=true):wM [k,[40],[41]] ⟨k,[]⟩
 | args {k:Cs} {as:List Cs} (hk:aH k=true) (h0:as≠[]) (h:∀a∈as,aR a=true):wM (k::[40]::between as) ⟨k,as⟩
inductive Fg:List Cs→List Fc→Prop
 | one {ps:List Cs} {f:Fc} (h:wM ps f):Fg ps [f]
 | more {ps r:List Cs} {f:Fc} {fs:List Fc} (h:wM ps f) (t:Fg r fs):Fg (ps++[44]::r) (f::fs)
def aN (m:Cs):List Cs→List (List Cs)→List (List Cs)
 | [],rows=>rows
 | p::r,rows=>aN m r (if p=m then rows++[[]] else rows.dropLast++[rows.getLastD []++[p]])
def glue (m:Cs):List (List Cs)→List Cs
 | []=>[]
 | [q]=>q
 | q::r=>q++m::glue m r
end Bk
namespace Bk
open PySem L2 bB
def eU (x:Str):Bool:=decide ((1:Int)≤x.length) && (decide ((x.length:Int)≤12) && x.cps.toList.all aG)
theorem oX (p:List Nat):eU (S p)=aR p:=by
 unfold eU aR
 rw [aV,ba]
 have e1:decide ((1:Int)≤(p.length:Int))=decide (1≤p.length):=by
  rw [decide_eq_decide];omega
 have e2:decide ((p.length:Int)≤12)=decide (p.length≤12):=by
  rw [decide_eq_decide];omega
 rw [e1,e2]
theorem Aa {x:Str} (h:1≤x.length):wx x.cps.toList (0:Int)=some (x.cps.toList.headD 0):=by
 have e:=ej x
 cases q:x.cps.toList with
 | nil=>rw [q] at e;simp at e;omega
 | cons a r=>exact bT (j:=0) rfl
theorem C9 {x:Str} (h:eU x=true):1≤x.length:=by
 unfold eU at h
 simp only [WG,decide_eq_true_eq] at h
 omega
theorem sz {n:Nat} (h:n≤100000):n≤Wt:=by rw [XQ];omega
theorem lu {n:Nat} (h:n≤100000):n<Wt:=by rw [XQ];omega
theorem ai {H:Hp} {p:WA} (h:H p=none) (o:HO):aj H (upd H p o):=fun b u q=>by rw [aw (au q h)];exact q
theorem aj.aS {H H':Hp} {p:WA} (e:aj H H') (h:H p=none) (o:HO):aj H (upd H' p o):=fun b u q=>by
 rw [aw (au q h)]
 exact e b u q
theorem mid {a b:Int} (h:0<b):0≤a % b∧a % b<b:=⟨YQ a (by omega),Int.emod_lt_of_pos a h⟩
theorem getD_get {l:List Nat} {i:Nat} (h:i<l.length):l[i]?=some (l.getD i 0):=by
 rw [Gd9,Ge9 h]
 rfl
theorem wN {l:List Nat} {i:Nat} (h:i<l.length):l.drop i=l.getD i 0::l.drop (i+1):=by
 rw [XD h,Gd9,Ge9 h]
 rfl
theorem pS {x:Str} {i:Int} (h0:0≤i) (h1:i<x.length):wx x.cps.toList i=some (x.cps.toList.getD i.toNat 0):=by
 have hl:=ej x
 have hk:i.toNat<x.cps.toList.length:=by omega
 have z:=bT (xs:=x.cps.toList) (j:=i.toNat) (v:=x.cps.toList.getD i.toNat 0) (getD_get hk)
 rw [show((i.toNat:Nat):Int)=i by omega] at z
 exact z
def ku (x:Str):Bool:=eU x && decide (x.cps.toList.headD 0∈cX.cps.toList)
theorem pT (p:List Nat):ku (S p)=aH p:=by
 unfold ku aH
 rw [oX,ba]
def yI:Sp:=fun vs H Q _=>∃c,vs=[.str ⟨#[c]⟩]∧Q (.bl (aG c)) H
def wO (f:Str→Bool):Sp:=fun vs H Q _=>∃x,vs=[.str x]∧x.length≤20000∧∀H',aj H H'→Q (.bl (f x)) H'
def um:Sp:=fun vs H Q _=>∃p:Cs,vs=[tx p]∧p≠[]∧p.length≤1000∧Q (.bl (great p)) H
def GA:Sp:=fun vs H Q _=>∃(x:Str) (p:Nat),vs=[.str x,.int p]∧x.length≤20000∧p≤x.length∧Q (.int ((p+a8 (x.cps.toList.drop p):Nat):Int)) H
def gP (m:Str) (c:Nat):Bool:=aG c || (decide (c∈m.cps.toList) || c == 32)
def oY:Sp:=fun vs H Q _=>∃(l:WA) (ps:List Cs) (p:Nat),vs=[.ref l,.int p]∧H l=some (.lst (ps.map tx))∧ps.length≤20000∧Q (tx (ps.getD p [])) H
theorem yJ (l:List Nat):a8 l≤l.length:=by
 unfold a8
 exact(List.takeWhile_sublist aG).length_le
theorem lJ (c:Nat) (r:List Nat):a8 (c::r)=if aG c=true then a8 r+1 else 0:=by
 unfold a8
 rw [Zc]
 split <;> simp
theorem mL:∀(l cur:List Nat),(a6 l cur).length≤l.length+(if cur=[] then 0 else 1)
 | [],cur=>by
  show(shut cur []).length≤_
  unfold shut
  by_cases h:cur=[] <;> simp [h]
 | c::r,cur=>by
  show(if aG c=true then a6 r (cur++[c]) else shut cur (if c=32 then a6 r [] else [c]::a6 r [])).length≤_
  have e1:=mL r (cur++[c])
  have e2:=mL r []
  rw [if_neg (by simp)] at e1
  rw [if_pos rfl] at e2
  by_cases ha:aG c=true
  ·rw [if_pos ha,WC]
   omega
  ·rw [if_neg ha,WC]
   unfold shut
   by_cases h:cur=[] <;> by_cases h2:c=32 <;> simp [h,h2] <;> omega
theorem wQ (l:List Nat):(toks l).length≤l.length:=by
 have e:=mL l []
 rw [if_pos rfl] at e
 exact e
theorem yK {c:Nat} (ha:aG c=false) (hb:c≠32) (r:List Nat):toks (c::r)=[c]::toks r:=by
 show(if aG c=true then a6 r ([]++[c]) else shut [] (if c=32 then a6 r [] else [c]::a6 r []))=_
 rw [ha,if_neg (by simp),if_neg hb]
 rfl
theorem Ab {x:Str} {p n:Nat} (h:p+n≤x.length):XM x (some (p:Int)) (some ((p+n:Nat):Int))=S ((x.cps.toList.drop p).take n):=by
 have e:=A8 (z:=x) (i:=p) (j:=((p+n:Nat):Int)) (by omega) (by omega) (by omega)
 rw [← rj (XM x (some (p:Int)) (some ((p+n:Nat):Int))),e,show((p:Int)).toNat=p by omega,show(((p+n:Nat):Int) - (p:Int)).toNat=n by omega]
theorem fg {l:List Cs} {p i:Nat}:(l.drop p).getD i []=l.getD (p+i) []:=by
 rw [Gd9,Gd9,List.getElem?_drop]
theorem Be {l as:List Cs} {n:Nat} (h:eT l=some (as,n)):∃nm mk r,l=nm::mk::r∧aR nm=true∧((mk=[41]∧as=[nm]∧n=2)∨(mk=[44]∧∃as' n',eT r=some (as',n')∧as=nm::as'∧n=n'+2)):=by
 match l,h with
 | nm::mk::r,h =>
  refine⟨nm,mk,r,rfl,?_⟩
  have h':(if aR nm=true then (if mk=[41] then some ([nm],2) else if mk=[44] then (eT r).map (fun q=>(nm::q.1,q.2+2)) else none) else none)=some (as,n):=h
  by_cases hn:aR nm=true
  ·rw [if_pos hn] at h'
   refine⟨hn,?_⟩
   by_cases h1:mk=[41]
   ·rw [if_pos h1] at h'
    injection h' with h'
    injection h' with a b
    exact .inl ⟨h1,a.symm,b.symm⟩
   ·rw [if_neg h1] at h'
    by_cases h2:mk=[44]
    ·rw [if_pos h2] at h'
     cases q:eT r with
     | none=>rw [q] at h';cases h'
     | some z =>
      rw [q] at h'
      injection h' with h'
      injection h' with a b
      exact .inr ⟨h2,z.1,z.2,rfl,a.symm,b.symm⟩
    ·rw [if_neg h2] at h'
     cases h'
  ·rw [if_neg hn] at h'
   cases h'
 | [_],h=>exact nomatch h
 | [],h=>exact nomatch h
theorem lK {a b:Cs} (h:a≠b):decide (tx a=tx b)=false:=decide_eq_false fun z=>h (C7 z)
theorem sT {p:Cs} (h:aR p=true):1≤p.length∧p.length≤12:=by
 unfold aR at h
 simp only [WG,decide_eq_true_eq] at h
 exact⟨h.1,h.2.1⟩
end Bk
namespace Bk
open PySem L2 bB
def b6:List Cs→Cs
 | []=>[]
 | [a]=>a
 | a::r=>a++10::b6 r
def jP:Cs→List Cs
 | []=>[[]]
 | c::r=>if c=10 then []::jP r else match jP r with
  | []=>[[c]]
  | q::qs=>(c::q)::qs
theorem M3:∀p,jP p≠[]
 | []=>by simp [jP]
 | c::r=>by
  unfold jP
  split
  ·simp
  ·split <;> simp
theorem wR:∀(a r:Cs),10∉a→jP (a++10::r)=a::jP r
 | [],r,_=>by
  show(if 10=10 then []::jP r else _)=_
  rw [if_pos rfl]
 | c::a,r,h=>by
  have hc:c≠10:=fun e=>h (by rw [e];exact WY)
  have ih:=wR a r fun z=>h (Ww _ z)
  show(if c=10 then []::jP (a++10::r) else match jP (a++10::r) with|[]=>[[c]]|q::qs=>(c::q)::qs)=_
  rw [if_neg hc,ih]
theorem wU:∀(a:Cs),10∉a→jP a=[a]
 | [],_=>rfl
 | c::a,h=>by
  have hc:c≠10:=fun e=>h (by rw [e];exact WY)
  have ih:=wU a fun z=>h (Ww _ z)
  show(if c=10 then []::jP a else match jP a with|[]=>[[c]]|q::qs=>(c::q)::qs)=_
  rw [if_neg hc,ih]
theorem mM:∀(ls:List Cs),ls≠[]→(∀l∈ls,10∉l)→jP (b6 ls)=ls
 | [],h,_=>absurd rfl h
 | [a],_,h=>wU a (h a (by simp))
 | a::b::r,_,h=>by
  show jP (a++10::b6 (b::r))=_
  rw [wR a _ (h a (by simp)),mM (b::r) (by simp) fun l hl=>h l (Ww _ hl)]
theorem wV:∀(ls:List Str),(aaP ⟨#[10]⟩ ls).cps.toList=b6 (ls.map fun s=>s.cps.toList)
 | []=>rfl
 | [a]=>rfl
 | a::b::r=>by
  have ih:=wV (b::r)
  show((a++(⟨#[10]⟩:Str))++aaP ⟨#[10]⟩ (b::r)).cps.toList=_
  rw [W8,W8,ih]
  show(a.cps.toList++[10])++_=a.cps.toList++10::_
  simp
theorem Dc (x:Str):YL x ⟨#[10]⟩≠[]:=by
 unfold YL
 split
 ·simp
 ·split
  ·simp
  ·intro h
   have e:=congrArg XF h
   rw [PyProof.Rows.len_partsBetween] at e
   simp at e
theorem wW {ls:List Cs} (h0:ls≠[]) (h:∀l∈ls,10∉l):YL (S (b6 ls)) (Wn "\n")=ls.map S:=by
 have e0:(Wn "\n")=⟨#[10]⟩:=by decide +kernel
 rw [e0]
 have e1:=StrLaws.join_split (S (b6 ls)) ⟨#[10]⟩
 have hf:=StrLaws.split_free (S (b6 ls)) 10
 have hn:=Dc (S (b6 ls))
 generalize YL (S (b6 ls)) ⟨#[10]⟩=ts at e1 hf hn
 have e2:b6 (ts.map fun s=>s.cps.toList)=b6 ls:=by
  rw [← wV,e1]
 have e3:=congrArg jP e2
 rw [mM ls h0 h,mM _ (by simpa using hn) (by
  intro l hl
  obtain⟨t,ht,rfl⟩:=Xu.mp hl
  exact hf t ht)] at e3
 rw [← e3,XT]
 have e4:(S ∘ fun s:Str=>s.cps.toList)=id:=by
  funext s
  exact rj s
 rw [e4,aaw]
def told (p:Cs):Bool:=match p.dropWhile (· == 32) with
 | []=>false
 | c::_=>!(c == 35)
theorem Ac (f:Nat→Bool):∀(l:Cs),l.drop (l.takeWhile f).length=l.dropWhile f
 | []=>rfl
 | a::r=>by
  rw [Zc,Zd]
  by_cases h:f a=true
  ·rw [if_pos h,if_pos h]
   exact Ac f r
  ·rw [if_neg h,if_neg h]
   rfl
theorem Dd (p:Cs):∃q:Cs,aan (S p) (Wn " ")=S q∧q.length≤p.length∧q.head?=(p.dropWhile (· == 32)).head?:=by
 have e0:(Wn " ").cps.contains=fun c=>c == 32:=by
  funext c
  have e:(Wn " ").cps = #[32]:=by decide +kernel
  rw [e]
  simp [Z6]
 unfold aan
 rw [e0,PyProof.Rows.stripBy_eq]
 obtain⟨a1,a2,a3⟩:=PyProof.Rows.lo_facts (fun c=>c == 32) (S p)
 obtain⟨b1,b2,b3,b4⟩:=PyProof.Rows.hi_facts (fun c=>c == 32) (S p) _ a1
 have Rm:stripLo (fun c=>c == 32) true (S p)=(p.takeWhile (· == 32)).length:=by
  simp [stripLo]
 rw [aV] at a1 a3 b2 b3
 generalize hlo:stripLo (fun c=>c == 32) true (S p)=lo at a1 a2 a3 b1 b2 b3 b4 Rm
 generalize hhi:stripHi (fun c=>c == 32) true (S p) lo=hi at b1 b2 b3 b4
 refine⟨(p.drop lo).take (hi - lo),?_,?_,?_⟩
 ·rw [← rj (Builtin.Str.strSub (S p) lo hi),StrLaws.strSub_toList,ba]
 ·rw [WV,Xc]
  omega
 ·rw [← Ac,← Rm]
  by_cases hx:lo=p.length
  ·rw [hx,List.drop_length,List.take_nil]
  ·have hl:lo<p.length:=by omega
   have pA:lo<hi:=by
    refine Nat.lt_of_not_le fun z=>?_
    have z1:=b3 lo z hl
    rcases a3 with a3|a3
    ·exact hx a3
    ·rw [z1] at a3;cases a3
   rw [List.head?_take]
   rw [if_neg (by omega)]
def De:Sp:=fun vs H Q _=>∃p:Cs,vs=[tx p]∧p.length≤20000∧Q (.bl (told p)) H
def Ad:Sp:=fun vs H Q _=>∃ls:List Cs,vs=[tx (b6 ls)]∧ls≠[]∧(∀l∈ls,10∉l)∧(b6 ls).length≤20000∧∀v H',aj H H'→nI H H' v (ls.filter told)→Q v H'
theorem sU:∀(ls:List Cs),ls.length≤(b6 ls).length+1
 | []=>by simp [b6]
 | [a]=>by simp [b6]
 | a::b::r=>by
  have ih:=sU (b::r)
  show(a::b::r).length≤(a++10::b6 (b::r)).length+1
  rw [Wq,WC,WC (a:=10)]
  omega
theorem mO:∀(ls:List Cs) (l:Cs),l∈ls→l.length≤(b6 ls).length
 | [a],l,h=>by rw [Wy.mp h];exact Wz _
 | a::b::r,l,h=>by
  have ih:=mO (b::r)
  show l.length≤(a++10::b6 (b::r)).length
  rw [Wq,WC]
  rcases WS.mp h with e|h
  ·rw [e];omega
  ·have:=ih l h;omega
abbrev cj:Str:="(),:;="
abbrev aW:Cs:=[112,97,115,115,105,110,103]
abbrev aP:Cs:=[108,97,115,116,105,110,103]
abbrev aY:Cs:=[114,117,108,101]
abbrev eB:Cs:=[116,97,107,101]
abbrev bW:Cs:=[107,101,101,112]
abbrev eC:Cs:=[108,111,111,107]
abbrev iF:Cs:=[112,117,116]
abbrev pU:Cs:=[116,101,108,108]
def KS (k:Kd):List Cs:=[if k.l=true then aP else aW,k.n,[48+k.c]]
end Bk
namespace Bk
open PySem L2 bB
theorem i9 {tt:TE} {aQ:List Nat} {σ:St} {H1:Hp} {Q:VK} {K:Wo} {a:WA} {xs:List V} {D:WA} {β:Type} (bs:List β) (Out:Hp→Hp→β→V→Prop)
  (keep:∀H0 H H' b y,Kp H0 H H'→Out H0 H b y→Out H0 H' b y) (bw:∀H0 H2 H b y,(∀c,H2 c=none→H0 c=none)→Out H2 H b y→Out H0 H b y)
  (hn:xs.length<Wt) (uf:H1 D=none) (hl:aI K H1 a xs) (hb:bs.length=xs.length)
  (he:∀(i:Nat) x b H' R,xs[i]?=some x→bs[i]?=some b→aj H1 H'→(∀y jM,aj H' jM→Out H' jM b y→R y jM)→tt (bM σ (some x) aQ) H' R)
  (hd:∀H' ys,aj H1 H'→H' D=some (.lst ys)→Paired (Out H1 H') bs ys→Q (.ref D) H'):lF HJ tt aQ σ Q (Cq K a) H1 D:=by
 have s0:aj H1 (upd H1 D (.lst [])):=ai uf _
 have Df:∀c,upd H1 D (.lst []) c=none→H1 c=none:=fun c h=>s0.free h
 refine gA (K:=K) (a:=a) (xs:=xs) hn (fun i ys H'=>aj H1 H'∧H' D=some (.lst ys)∧(∀c,H' c=none→upd H1 D (.lst []) c=none)∧Paired (Out (upd H1 D (.lst [])) H') (bs.take i) ys) ⟨s0,ae,fun _ h=>h,.nil⟩
  (fun i ys H' p=>p.1.seq hl) (fun i ys H' p=>⟨p.2.1,?_⟩) (fun i ys H' hi p=>?_) (fun ys H' p=>?_)
 ·have z:=WW p.2.2.2
  rw [WV] at z
  omega
 ·have hx:xs.getD i .bG=xs[i]:=by rw [Gd9,Ge9 hi];rfl
  rw [hx]
  have lL:i<bs.length:=by omega
  refine he i xs[i] bs[i] H' _ (Ge9 hi) (Ge9 lL) p.1 fun y H2 s2 ho=>?_
  have mw:=s2 _ _ p.2.1
  have kp:Kp (upd H1 D (.lst [])) H2 (upd H2 D (.lst (ys++[y]))):=Kp.upd ae mw (by intro xs z;cases z) (by intro o u z;cases z)
  refine⟨mw,aj.aS (aj.trans p.1 s2) uf _,ae,fun c h=>?_,?_⟩
  ·have h2:=kp.oW c h
   exact p.2.2.1 c (s2.free h2)
  ·rw [WB lL]
   refine(L2.Paired.cP p.2.2.2 fun b v z=>keep _ _ _ _ _ kp (keep _ _ _ _ _ (Kp.same s2) z)).snoc ?_
   exact keep _ _ _ _ _ kp (bw _ _ _ _ _ p.2.2.1 ho)
 ·have z:=p.2.2.2
  rw [XA (by omega)] at z
  exact hd H' ys p.1 p.2.1 (L2.Paired.cP z fun b v h=>bw _ _ _ _ _ (fun c h=>by
   by_cases e:c=D
   ·rw [e];exact uf
   ·exact Df c h) h)
def d6 (m p:Cs) (rows:List (List Cs)):List (List Cs):=if p=m then rows++[[]] else rows.dropLast++[rows.getLastD []++[p]]
theorem lM (m p:Cs):∀(ps:List Cs) (rows:List (List Cs)),aN m (ps++[p]) rows=d6 m p (aN m ps rows)
 | [],rows=>rfl
 | q::r,rows=>lM m p r _
theorem Dg {m p:Cs} {rows:List (List Cs)}:d6 m p rows≠[]:=by
 unfold d6
 split <;> simp
theorem pV (m:Cs):∀(ps:List Cs) (rows:List (List Cs)),rows≠[]→aN m ps rows≠[]
 | [],rows,h=>h
 | q::r,rows,h=>pV m r _ (show d6 m q rows≠[] from Dg)
theorem nJ {α β:Type} {R:α→β→Prop}:∀{l1:List α} {l2:List β},Paired R l1 l2→l1≠[]→∃a1 x b1 y,l1=a1++[x]∧l2=b1++[y]∧Paired R a1 b1∧R x y
 | _,_,.nil,h=>absurd rfl h
 | _,_,.cons (a:=a) (b:=b) (l₁:=l1) (l₂:=l2) r t,_=>by
  cases t with
  | nil=>exact⟨[],a,[],b,rfl,rfl,.nil,r⟩
  | cons r2 t2 =>
   obtain⟨a1,x,b1,y,e1,e2,h1,h2⟩:=nJ (.cons r2 t2) (by simp)
   exact⟨a::a1,x,b::b1,y,by rw [e1];rfl,by rw [e2];rfl,.cons r h1,h2⟩
theorem ky {α β:Type} {R:α→β→Prop}:∀{l1:List α} {l2:List β},Paired R l1 l2→∀{y:β},y∈l2→∃x,x∈l1∧R x y
 | _,_,.nil,_,h=>nomatch h
 | _,_,.cons r t,y,h=>by
  rcases WS.mp h with e|h
  ·subst e;exact⟨_,WY,r⟩
  ·obtain⟨x,hx,hr⟩:=ky t h
   exact⟨x,Ww _ hx,hr⟩
theorem nK {α β:Type} {R R':α→β→Prop}:∀{l1:List α} {l2:List β},Paired R l1 l2→(∀a b,b∈l2→R a b→R' a b)→Paired R' l1 l2
 | _,_,.nil,_=>.nil
 | _,_,.cons r t,h=>.cons (h _ _ WY r) (nK t fun a b hb=>h a b (Ww _ hb))
theorem nM {α β γ:Type} {g:β→γ} {R:α→γ→Prop}:∀{l1:List α} {l2:List β},Paired (fun a b=>R a (g b)) l1 l2→Paired R l1 (l2.map g)
 | _,_,.nil=>.nil
 | _,_,.cons r t=>.cons r (nM t)
def GB (H0 H:Hp) (row:List Cs) (v:V):Prop:=∃b,v=.ref b∧H0 b=none∧H b=some (.lst (row.map tx))
def Rows (H0 H:Hp) (v:V) (rows:List (List Cs)):Prop:=∃l vs,v=.ref l∧H0 l=none∧H l=some (.lst vs)∧Paired (GB H0 H) rows vs
def lN:Sp:=fun vs H Q _=>∃(l:WA) (ps:List Cs) (m:Cs),vs=[.ref l,tx m]∧H l=some (.lst (ps.map tx))∧ps.length≤20000∧∀v H',aj H H'→Rows H H' v (aN m ps [[]])→Q v H'
theorem fL (m:Cs):∀(ps:List Cs) (rows:List (List Cs)),(aN m ps rows).length≤rows.length+ps.length+1
 | [],rows=>by show rows.length≤_;omega
 | p::r,rows=>by
  have ih:=fL m r (d6 m p rows)
  have:(d6 m p rows).length≤rows.length+1:=by
   unfold d6
   split
   ·simp
   ·rw [Wq,List.length_dropLast,WL];omega
  show(aN m r (d6 m p rows)).length≤_
  rw [WC]
  omega
theorem kz (m:Cs):∀(ps:List Cs) (rows:List (List Cs)) (B:Nat),(∀r∈rows,r.length≤B)→∀r∈aN m ps rows,r.length≤B+ps.length
 | [],rows,B,h,r,hr=>by have:=h r hr;show r.length≤B+0;omega
 | p::q,rows,B,h,r,hr=>by
  have ih:=kz m q (d6 m p rows) (B+1) (by
   intro x hx
   unfold d6 at hx
   split at hx
   ·rcases WU.mp hx with hx|hx
    ·have:=h x hx;omega
    ·rw [Wy.mp hx];simp
   ·rcases WU.mp hx with hx|hx
    ·have:=h x ((Y1 rows).subset hx);omega
    ·rw [Wy.mp hx,Wq]
     have:(rows.getLastD []).length≤B:=by
      cases rows with
      | nil=>exact Xs _
      | cons a t=>exact h _ (ZQ (by simp:a::t≠[]))
     rw [WL]
     omega) r hr
  rw [WC]
  omega
abbrev bI:Cs:=[115,97,109,101]
abbrev d7:Cs:=[117,110,108,105,107,101]
def GC (k:Lk):List Cs:=[k.l,if k.same=true then bI else d7,k.r]
def GD (p:Cs × Cs):List Cs:=[p.1,[61],p.2]
structure wX (K:Wo) (C:WA):Prop where
 cl:yn K C
 nL:cA K C "left"
 nR:cA K C "right"
def gZ (K:Wo):Sp:=fun vs H Q _=>∃(C p dx:WA) (l r:V),vs=[.ref p,l,r]∧wX K C∧H p=some (.ins C dx [])∧∀H' fs,H' p=some (.ins C dx fs)→fs.lookup ("left":Str)=some l→fs.lookup ("right":Str)=some r→fs.lookup ("holds":Str)=none→fs.lookup ("word":Str)=none→(∀b o,H b=some o→b≠p→H' b=some o)→Q .bG H'
end Bk
namespace Bk
open PySem L2 bB
inductive Pt where
 | fs (l:List Fc)
 | lk (l:List Lk)
 | pr (l:List (Cs × Cs))
def cC (K:Wo) (c:Cl) (H0 H:Hp) (v:V):Pt→Prop
 | .fs l=>Facts K H0 H v l
 | .lk l=>Looks c H0 H v l
 | .pr l=>Pairs K H0 H v l
theorem cC.keep {K:Wo} {c:Cl} {H0 H H':Hp} {v:V} (k:Kp H0 H H'):∀{p:Pt},cC K c H0 H v p→cC K c H0 H' v p
 | .fs _,h=>Facts.keep k h
 | .lk _,h=>Looks.keep k h
 | .pr _,h=>Pairs.keep k h
theorem jR.bw {c:Cl} {H0 H1 H:Hp} {x:Lk} {v:V} (d:∀b,H1 b=none→H0 b=none) (h:jR c H1 H x v):jR c H0 H x v:=by
 obtain⟨a,dx,fs,e,n,r⟩:=h
 exact⟨a,dx,fs,e,d a n,r⟩
theorem Looks.bw {c:Cl} {H0 H1 H:Hp} {xs:List Lk} {v:V} (d:∀b,H1 b=none→H0 b=none) (h:Looks c H1 H v xs):Looks c H0 H v xs:=by
 obtain⟨l,vs,e,n,h1,h2⟩:=h
 exact⟨l,vs,e,d l n,h1,L2.Paired.cP h2 fun _ _ z=>z.bw d⟩
theorem cC.bw {K:Wo} {c:Cl} {H0 H1 H:Hp} {v:V} (d:∀b,H1 b=none→H0 b=none):∀{p:Pt},cC K c H1 H v p→cC K c H0 H v p
 | .fs _,h=>qZ.bw d h
 | .lk _,h=>Looks.bw d h
 | .pr _,h=>qZ.bw d h
def wordAt:Nat→Cs
 | 0=>eB
 | 1=>bW
 | 2=>eC
 | 3=>iF
 | _=>pU
theorem pW {i j:Nat} (hi:i<5) (hj:j<5) (h:wordAt i=wordAt j):i=j:=by
 rcases(by omega:i=0∨i=1∨i=2∨i=3∨i=4) with e|e|e|e|e <;> subst e <;>
 rcases(by omega:j=0∨j=1∨j=2∨j=3∨j=4) with e|e|e|e|e <;> subst e <;> first|rfl|exact absurd h (by decide)
inductive jS:Nat→List Cs→Pt→Prop
 | fs {n:Nat} {ps:List Cs} {l:List Fc} (hn:n=0∨n=1∨n=3) (h:Fg ps l):jS n ps (.fs l)
 | lk {l:List Lk} (h0:l≠[]) (hl:l.length≤1000) (h:∀k∈l,aR k.l=true∧aR k.r=true):jS 2 (glue [44] (l.map GC)) (.lk l)
 | pr {l:List (Cs × Cs)} (h0:l≠[]) (hl:l.length≤1000) (h:∀k∈l,aR k.1=true∧aR k.2=true):jS 4 (glue [44] (l.map GD)) (.pr l)
structure Pr where
 n:Nat
 ps:List Cs
 p:Pt
def Rn:Nat→List Pr→Prop
 | _,[]=>True
 | m,x::r=>m≤x.n∧x.n<5∧Rn (x.n+1) r
def Ih (title:Cs) (L:List Pr):List Cs:=aY::title::[58]::glue [59] (L.map fun x=>wordAt x.n::x.ps)
def bU (K:Wo) (c:Cl) (H0 H:Hp) (L:List Pr) (kvs:List (Key × V)):Prop:=Paired (fun(x:Pr) (kv:Key × V)=>kv.1=W3 (S (wordAt x.n))∧cC K c H0 H kv.2 x.p) L kvs
theorem bU.keep {K:Wo} {c:Cl} {H0 H H':Hp} {L:List Pr} {kvs:List (Key × V)} (k:Kp H0 H H') (h:bU K c H0 H L kvs):bU K c H0 H' L kvs:=L2.Paired.cP h fun _ _ z=>⟨z.1,z.2.keep k⟩
theorem sV {kvs:List (Key × V)} {k:Key} (h:∀p∈kvs,p.1≠k):bt kvs k=none:=by
 cases e:bt kvs k with
 | none=>rfl
 | some v =>
  obtain⟨p,hp,hk⟩:=Xu.mp (E9 e)
  exact absurd hk (h p hp)
theorem Ii:∀{L:List Pr} {m:Nat},Rn m L→∀x∈L,m≤x.n∧x.n<5
 | [],_,_,_,h=>nomatch h
 | y::r,m,hi,x,h=>by
  rcases WS.mp h with e|h
  ·subst e;exact⟨hi.1,hi.2.1⟩
  ·have z:=Ii hi.2.2 x h
   have:=hi.1
   exact⟨by omega,z.2⟩
theorem mP {K:Wo} {c:Cl} {H0 H:Hp}:∀{L:List Pr} {kvs:List (Key × V)},bU K c H0 H L kvs→∀{x:Pr},x∈L→(bt kvs (W3 (S (wordAt x.n)):Key)).isSome=true
 | _,_,.nil,_,h=>nomatch h
 | _,_,.cons (a:=a) (b:=b) (l₁:=l1) (l₂:=l2) r t,x,h=>by
  rw [← gE,YJ]
  rcases WS.mp h with e|h
  ·subst e
   rw [decide_eq_true r.1]
   rfl
  ·have ih:=mP t h
   rw [← gE] at ih
   rw [ih,Bool.or_true]
end Bk
namespace Bk
open PySem L2 bB
def Dh (f:Fc):Prop:=aH f.k=true∧f.as.length≤20000∧∀a∈f.as,aR a=true
def jT (x:Cs) (acc:List Cs):List Cs:=if great x=true then (if x∈acc then acc else acc++[x]) else acc
def dw (l:List Cs) (acc:List Cs):List Cs:=l.foldl (fun acc x=>jT x acc) acc
theorem ja:∀(l acc:List Cs),once (l.filter great) acc=dw l acc
 | [],acc=>rfl
 | x::r,acc=>by
  rw [Y4]
  by_cases h:great x=true
  ·rw [if_pos h]
   show once (r.filter great) (if x∈acc then acc else acc++[x])=dw r (jT x acc)
   rw [ja r]
   unfold jT
   rw [if_pos h]
  ·rw [if_neg h,ja r]
   show _=dw r (jT x acc)
   unfold jT
   rw [if_neg h]
theorem Di (fs:List Fc):opens fs=dw (fs.flatMap (·.as)) []:=ja _ _
theorem mQ (a b acc:List Cs):dw (a++b) acc=dw b (dw a acc):=List.foldl_append ..
def rm (a:Cs):Key × V:=(W3 (S a),.bl true)
theorem Dj (x:Cs) (acc:List Cs):putK (acc.map rm) (W3 (S x):Key) (.bl true)=(if x∈acc then acc else acc++[x]).map rm:=by
 unfold putK
 have e:((acc.map rm).any fun kv=>decide (kv.1=(W3 (S x):Key)))=decide (x∈acc):=by
  rw [Ya,YA,decide_eq_true_eq]
  constructor
  ·rintro⟨kv,hm,hk⟩
   obtain⟨a,ha,rfl⟩:=Xu.mp hm
   have:=of_decide_eq_true hk
   rw [sS (ZE this)] at ha
   exact ha
  ·intro h
   exact⟨rm x,Xu.mpr ⟨x,h,rfl⟩,decide_eq_true rfl⟩
 rw [e]
 by_cases h:x∈acc
 ·rw [decide_eq_true h,if_pos rfl,if_pos h]
  rw [XT]
  refine List.map_congr_left fun a _=>?_
  show(if (rm a).1=_ then ((rm a).1,V.bl true) else rm a)=rm a
  split <;> rfl
 ·rw [decide_eq_false h,if_neg (by decide),if_neg h,WQ]
  rfl
theorem Bf (x:Cs) (acc:List Cs):(jT x acc).length≤acc.length+1:=by
 unfold jT
 split
 ·split <;> simp
 ·omega
def Ae (K:Wo):Sp:=fun vs H Q _=>∃(l:WA) (us:List V) (fs:List Fc),vs=[.ref l]∧H l=some (.lst us)∧Paired (Fact K H) fs us∧fs.length≤20000∧(∀f∈fs,Dh f)∧(fs.flatMap (·.as)).length≤20000∧∀v H',aj H H'→nI H H' v (opens fs)→Q v H'
def lO (n:Nat) (L:List Pr):Option Pr:=L.find? fun x=>x.n == n
def rn (n:Nat) (L:List Pr):List Fc:=match lO n L with
 | some ⟨_,_,.fs l⟩=>l
 | _=>[]
def Fh (L:List Pr):List Lk:=match lO 2 L with
 | some ⟨_,_,.lk l⟩=>l
 | _=>[]
def Fi (L:List Pr):List (Cs × Cs):=match lO 4 L with
 | some ⟨_,_,.pr l⟩=>l
 | _=>[]
def jb (title:Cs) (L:List Pr):Rl:=⟨title,rn 0 L,rn 1 L,Fh L,rn 3 L,Fi L⟩
theorem jN {K:Wo} {c:Cl} {H0 H:Hp}:∀{L:List Pr} {kvs:List (Key × V)} {n:Nat},bU K c H0 H L kvs→(∀x∈L,x.n<5)→n<5 →
  (lO n L=none∧bt kvs (W3 (S (wordAt n)):Key)=none)∨∃x v,lO n L=some x∧x∈L∧x.n=n∧bt kvs (W3 (S (wordAt n)):Key)=some v∧cC K c H0 H v x.p
 | _,_,n,.nil,_,_=>.inl ⟨rfl,rfl⟩
 | _,_,n,.cons (a:=a) (b:=b) (l₁:=l1) (l₂:=l2) r t,h5,hn=>by
  by_cases e:a.n=n
  ·refine .inr ⟨a,b.2,?_,WY,e,?_,r.2⟩
   ·unfold lO
    rw [X4,show(a.n == n)=true by simpa using e]
   ·exact i0 (by rw [r.1,e])
  ·have hf:lO n (a::l1)=lO n l1:=by
    unfold lO
    rw [X4,show(a.n == n)=false by simpa using e]
   have hv:bt (b::l2) (W3 (S (wordAt n)):Key)=bt l2 (W3 (S (wordAt n)):Key):=i6 (by
    rw [r.1]
    intro z
    exact e (pW (h5 a WY) hn (sS (ZE z))))
   rw [hf,hv]
   rcases jN (n:=n) t (fun x hx=>h5 x (Ww _ hx)) hn with z|⟨x,v,z1,z2,z3⟩
   ·exact .inl z
   ·exact .inr ⟨x,v,z1,Ww _ z2,z3⟩
theorem wY {K:Wo} {H0 H:Hp} {l:WA} (h0:H0 l=none) (h:H l=some (.lst [])):Facts K H0 H (.ref l) []:=⟨l,[],rfl,h0,h,.nil⟩
theorem wZ {c:Cl} {H0 H:Hp} {l:WA} (h0:H0 l=none) (h:H l=some (.lst [])):Looks c H0 H (.ref l) []:=⟨l,[],rfl,h0,h,.nil⟩
theorem w4 {K:Wo} {H0 H:Hp} {l:WA} (h0:H0 l=none) (h:H l=some (.lst [])):Pairs K H0 H (.ref l) []:=⟨l,[],rfl,h0,h,.nil⟩
theorem yL {K:Wo} {c:Cl} {H0 H:Hp} {L:List Pr} {kvs:List (Key × V)} {n:Nat} {l:WA} (pa:bU K c H0 H L kvs) (h5:∀x∈L,x.n<5) (hok:∀x∈L,jS x.n x.ps x.p) (hn:n=0∨n=1∨n=3) (h0:H0 l=none) (h:H l=some (.lst [])) :
  Facts K H0 H ((bt kvs (W3 (S (wordAt n)):Key)).getD (.ref l)) (rn n L):=by
 rcases jN (n:=n) pa h5 (by omega) with⟨z1,z2⟩|⟨⟨xn,Ro,xp⟩,v,z1,z2,rfl,z4,z5⟩
 ·rw [z2]
  unfold rn
  rw [z1]
  exact wY h0 h
 ·rw [z4]
  unfold rn
  rw [z1]
  have hP:=hok _ z2
  cases xp with
  | fs l=>exact z5
  | lk l=>cases hP;exact absurd (show 2=0∨2=1∨2=3 from hn) (by decide)
  | pr l=>cases hP;exact absurd (show 4=0∨4=1∨4=3 from hn) (by decide)
theorem Ij {K:Wo} {c:Cl} {H0 H:Hp} {L:List Pr} {kvs:List (Key × V)} {l:WA} (pa:bU K c H0 H L kvs) (h5:∀x∈L,x.n<5) (hok:∀x∈L,jS x.n x.ps x.p) (h0:H0 l=none) (h:H l=some (.lst [])) :
  Looks c H0 H ((bt kvs (W3 (S (wordAt 2)):Key)).getD (.ref l)) (Fh L):=by
 rcases jN (n:=2) pa h5 (by omega) with⟨z1,z2⟩|⟨⟨xn,Ro,xp⟩,v,z1,z2,z3,z4,z5⟩
 ·rw [z2]
  unfold Fh
  rw [z1]
  exact wZ h0 h
 ·rw [z4]
  unfold Fh
  rw [z1]
  have z3:xn=2:=z3
  subst z3
  have hP:=hok _ z2
  cases xp with
  | fs l=>cases hP with|fs hn _=>exact absurd (show 2=0∨2=1∨2=3 from hn) (by decide)
  | lk l=>exact z5
  | pr l=>cases hP
theorem Ik {K:Wo} {c:Cl} {H0 H:Hp} {L:List Pr} {kvs:List (Key × V)} {l:WA} (pa:bU K c H0 H L kvs) (h5:∀x∈L,x.n<5) (hok:∀x∈L,jS x.n x.ps x.p) (h0:H0 l=none) (h:H l=some (.lst [])) :
  Pairs K H0 H ((bt kvs (W3 (S (wordAt 4)):Key)).getD (.ref l)) (Fi L):=by
 rcases jN (n:=4) pa h5 (by omega) with⟨z1,z2⟩|⟨⟨xn,Ro,xp⟩,v,z1,z2,z3,z4,z5⟩
 ·rw [z2]
  unfold Fi
  rw [z1]
  exact w4 h0 h
 ·rw [z4]
  unfold Fi
  rw [z1]
  have z3:xn=4:=z3
  subst z3
  have hP:=hok _ z2
  cases xp with
  | fs l=>cases hP with|fs hn _=>exact absurd (show 4=0∨4=1∨4=3 from hn) (by decide)
  | lk l=>cases hP
  | pr l=>exact z5
structure uo (K:Wo) (C:WA):Prop where
 cl:yn K C
 n1:cA K C "title"
 n2:cA K C "taken"
 n3:cA K C "kept"
 n4:cA K C "looks"
 n5:cA K C "given"
 n6:cA K C "told"
 n7:cA K C "names"
structure Il (K:Wo) (C:WA):Prop where
 cl:yn K C
 n1:cA K C "kinds"
 n2:cA K C "rules"
structure Im (r:Rl):Prop where
 heads:∀f∈r.take++r.keep,Dh f
 few:(r.take++r.keep).length≤20000
 OC:((r.take++r.keep).flatMap (·.as)).length≤20000
def oZ (K:Wo) (c:Cl):Sp:=fun vs H Q _=>∃(H0:Hp) (p dx d:WA) (title:Cs) (L:List Pr) (kvs:List (Key × V)) (u0:HO),vs=[.ref p,tx title,.ref d]∧H p=some (.ins c.rule dx [])∧H0 p=some u0∧(∀b,H b=none→H0 b=none)∧H d=some (.dK kvs) ∧
 bU K c H0 H L kvs∧(∀x∈L,x.n<5)∧(∀x∈L,jS x.n x.ps x.p)∧Im (jb title L) ∧
 ∀H' fs,H' p=some (.ins c.rule dx fs)→lI K c H0 H' (jb title L) fs→(∀b o,H b=some o→b≠p→H' b=some o)→Q .bG H'
def o6 (K:Wo) (c:Cl):Sp:=fun vs H Q _=>∃(p dx:WA) (k r:V),vs=[.ref p,k,r]∧H p=some (.ins c.book dx [])∧∀H' fs,H' p=some (.ins c.book dx fs)→fs.lookup ("kinds":Str)=some k→fs.lookup ("rules":Str)=some r→(∀b o,H b=some o→b≠p→H' b=some o)→Q .bG H'
def uq (K:Wo) (c:Cl):Sp:=fun vs H Q _=>∃(H0:Hp) (v:V) (r:Rl),vs=[v]∧gF K c H0 H r v∧Q (.bl (decide (r.take=[]))) H
theorem g5 {α β:Type} {R:α→β→Prop}:∀{a1 a2:List α} {b1 b2:List β},Paired R a1 b1→Paired R a2 b2→Paired R (a1++a2) (b1++b2)
 | _,_,_,_,.nil,h=>h
 | _,_,_,_,.cons r t,h=>.cons r (g5 t h)
end Bk
namespace Bk
open PySem L2 bB
theorem fM (a:Cs) (l:List Cs):EL (tx a) (l.map tx)=decide (a∈l):=by
 unfold EL
 rw [List.any_map,Ya,YA,decide_eq_true_eq]
 constructor
 ·rintro⟨x,hx,h⟩
  have e:(S x == S a)=true:=h
  rw [sS (eq_of_beq e)] at hx
  exact hx
 ·intro h
  exact⟨a,h,(show(S a == S a)=true from beq_self_eq_true _)⟩
theorem jc (l:List Cs):(l.map tx).all gy=true:=by
 rw [aaL,Xa]
 intro x _
 rfl
theorem sW {tt:TT} {te:TE} {aQ:List Nat} {σ:St} {H1:Hp} {Q:VK} {K:Wo} {a:WA} {xs:List V} {D:WA} {β γ:Type} (bs:List β) (kp:β→Bool) (g:β→γ) (Out:Hp→Hp→γ→V→Prop)
  (keep:∀H0 H H' b y,Kp H0 H H'→Out H0 H b y→Out H0 H' b y) (bw:∀H0 H2 H b y,(∀c,H2 c=none→H0 c=none)→Out H2 H b y→Out H0 H b y)
  (hn:xs.length<Wt) (uf:H1 D=none) (hl:aI K H1 a xs) (hb:bs.length=xs.length)
  (ht:∀(i:Nat) x b H' R,xs[i]?=some x→bs[i]?=some b→aj H1 H'→(∀jM,aj H' jM→R (kp b) jM)→tt (bM σ (some x) aQ) H' R)
  (he:∀(i:Nat) x b H' R,xs[i]?=some x→bs[i]?=some b→kp b=true→aj H1 H'→(∀y jM,aj H' jM→Out H' jM (g b) y→R y jM)→te (bM σ (some x) aQ) H' R)
  (hd:∀H' ys,aj H1 H'→H' D=some (.lst ys)→Paired (Out H1 H') ((bs.filter kp).map g) ys→Q (.ref D) H'):lF tt te aQ σ Q (Cq K a) H1 D:=by
 have s0:aj H1 (upd H1 D (.lst [])):=ai uf _
 have Df:∀c,upd H1 D (.lst []) c=none→H1 c=none:=fun c h=>s0.free h
 refine gA (K:=K) (a:=a) (xs:=xs) hn (fun i ys H'=>aj H1 H'∧H' D=some (.lst ys)∧(∀c,H' c=none→upd H1 D (.lst []) c=none)∧Paired (Out (upd H1 D (.lst [])) H') (((bs.take i).filter kp).map g) ys) ⟨s0,ae,fun _ h=>h,.nil⟩
  (fun i ys H' p=>p.1.seq hl) (fun i ys H' p=>⟨p.2.1,?_⟩) (fun i ys H' hi p=>?_) (fun ys H' p=>?_)
 ·have z:=WW p.2.2.2
  rw [Lm9] at z
  have z2:=YZ kp (bs.take i)
  rw [WV] at z2
  omega
 ·have hx:xs.getD i .bG=xs[i]:=by rw [Gd9,Ge9 hi];rfl
  rw [hx]
  have lL:i<bs.length:=by omega
  refine ht i xs[i] bs[i] H' _ (Ge9 hi) (Ge9 lL) p.1 fun Rp Io=>?_
  have M1:=Io _ _ p.2.1
  have Ip:∀c,Rp c=none→upd H1 D (.lst []) c=none:=fun c h=>p.2.2.1 c (Io.free h)
  cases hk:kp bs[i] with
  | false =>
   refine a7 ⟨aj.trans p.1 Io,M1,Ip,?_⟩
   rw [WB lL,Yq]
   have e:[bs[i]].filter kp=[]:=by simp [hk]
   rw [e,Xh]
   exact L2.Paired.cP p.2.2.2 fun b v z=>keep _ _ _ _ _ (Kp.same Io) z
  | true =>
   refine bF ?_
   refine he i xs[i] bs[i] Rp _ (Ge9 hi) (Ge9 lL) hk (aj.trans p.1 Io) fun y H2 s2 ho=>?_
   have mw:=s2 _ _ M1
   have Gy:Kp (upd H1 D (.lst [])) H2 (upd H2 D (.lst (ys++[y]))):=Kp.upd ae mw (by intro xs z;cases z) (by intro o u z;cases z)
   refine⟨mw,aj.aS (aj.trans (aj.trans p.1 Io) s2) uf _,ae,fun c h=>?_,?_⟩
   ·exact Ip c (s2.free (Gy.oW c h))
   ·rw [WB lL,Yq]
    have e:[bs[i]].filter kp=[bs[i]]:=by simp [hk]
    rw [e,WQ]
    refine(L2.Paired.cP p.2.2.2 fun b v z=>keep _ _ _ _ _ Gy (keep _ _ _ _ _ (Kp.same (aj.trans Io s2)) z)).snoc ?_
    exact keep _ _ _ _ _ Gy (bw _ _ _ _ _ Ip ho)
 ·have z:=p.2.2.2
  rw [XA (by omega)] at z
  exact hd H' ys p.1 p.2.1 (L2.Paired.cP z fun b v h=>bw _ _ _ _ _ (fun c h=>by
   by_cases e:c=D
   ·rw [e];exact uf
   ·exact Df c h) h)
theorem dM:∀{l:List Cs} {ys:List V},Paired (fun b y=>y=tx b) l ys→ys=l.map tx
 | _,_,.nil=>rfl
 | _,_,.cons r t=>by rw [r,dM t];rfl
structure pX (K:Wo) (c:Cl) (H0 H:Hp) (lk lr:WA) (ks:List Kd) (rs:List Rl) (kvs jU:List V):Prop where
 hk:H lk=some (.lst kvs)
 pk:Paired (Kind K H) ks kvs
 hr:H lr=some (.lst jU)
 pr:Paired (gF K c H0 H) rs jU
 ne:lk≠lr
 ok:∃u,H0 lk=some u
 or:∃u,H0 lr=some u
 oW:∀b,H b=none→H0 b=none
 fk:ks.length≤10000
 fr:rs.length≤10000
theorem gF.bw {K:Wo} {c:Cl} {H0 H1 H:Hp} {r:Rl} {v:V} (d:∀b,H1 b=none→H0 b=none) (h:gF K c H1 H r v):gF K c H0 H r v:=by
 obtain⟨a,dx,fs,e,n,h1,⟨t1,⟨v2,e2,h2⟩,⟨v3,e3,h3⟩,⟨v4,e4,h4⟩,⟨v5,e5,h5⟩,⟨v6,e6,h6⟩,⟨v7,e7,h7⟩,h8⟩⟩:=h
 refine⟨a,dx,fs,e,d a n,h1,⟨t1,⟨v2,e2,qZ.bw d h2⟩,⟨v3,e3,qZ.bw d h3⟩,⟨v4,e4,Looks.bw d h4⟩,⟨v5,e5,qZ.bw d h5⟩,⟨v6,e6,qZ.bw d h6⟩,⟨v7,e7,?_⟩,h8⟩⟩
 obtain⟨l,el,nl,hl⟩:=h7
 exact⟨l,el,d l nl,hl⟩
theorem cC.apart {K:Wo} {c:Cl} {H0 H:Hp} {v:V} {x:WA} {o:HO} (hx:H x=none) {p:Pt} (h:cC K c H0 H v p):cC K c (upd H0 x o) H v p:=by
 have key:∀b u,H b=some u→H0 b=none→upd H0 x o b=none:=fun b u e n=>by rw [aw (au e hx)];exact n
 cases p with
 | fs l =>
  obtain⟨l,vs,e,n,h1,h2⟩:=h
  exact⟨l,vs,e,key _ _ h1 n,h1,h2⟩
 | pr l =>
  obtain⟨l,vs,e,n,h1,h2⟩:=h
  exact⟨l,vs,e,key _ _ h1 n,h1,h2⟩
 | lk l =>
  obtain⟨l,vs,e,n,h1,h2⟩:=h
  exact⟨l,vs,e,key _ _ h1 n,h1,L2.Paired.cP h2 fun k y z=>by
   obtain⟨a,dx,fs,e,n,z1,z2⟩:=z
   exact⟨a,dx,fs,e,key _ _ z1 n,z1,z2⟩⟩
theorem lI.bw {K:Wo} {c:Cl} {H0 H1 H:Hp} {r:Rl} {fs:List (Str × V)} (d:∀b,H1 b=none→H0 b=none) (h:lI K c H1 H r fs):lI K c H0 H r fs:=by
 obtain⟨t1,⟨v2,e2,h2⟩,⟨v3,e3,h3⟩,⟨v4,e4,h4⟩,⟨v5,e5,h5⟩,⟨v6,e6,h6⟩,⟨v7,e7,h7⟩,h8⟩:=h
 refine⟨t1,⟨v2,e2,qZ.bw d h2⟩,⟨v3,e3,qZ.bw d h3⟩,⟨v4,e4,Looks.bw d h4⟩,⟨v5,e5,qZ.bw d h5⟩,⟨v6,e6,qZ.bw d h6⟩,⟨v7,e7,?_⟩,h8⟩
 obtain⟨l,el,nl,hl⟩:=h7
 exact⟨l,el,d l nl,hl⟩
def w5 (ks:List Kd) (f:Fc):Prop:=∃k∈ks,k.n=f.k∧f.as.length=k.c
def w6 (K:Wo):Sp:=fun vs H Q _=>∃(lk lf:WA) (kvs Dk:List V) (ks:List Kd) (fs:List Fc),vs=[.ref lk,.ref lf]∧H lk=some (.lst kvs)∧Paired (Kind K H) ks kvs∧(ks.map (·.n)).Nodup∧ks.length≤10000∧H lf=some (.lst Dk)∧Paired (Fact K H) fs Dk∧(∀f∈fs,w5 ks f)∧∀H',aj H H'→Q .bG H'
def w9 (K:Wo):Sp:=fun vs H Q _=>∃(ll lf:WA) (Dk:List V) (ls:List Cs) (fs:List Fc),vs=[.ref ll,.ref lf]∧H ll=some (.lst (ls.map tx))∧H lf=some (.lst Dk)∧Paired (Fact K H) fs Dk∧(∀f∈fs,f.k∉ls)∧Q .bG H
def xa (K:Wo) (c:Cl):Sp:=fun vs H Q _=>∃(H0:Hp) (ll:WA) (v:V) (ls:List Cs) (r:Rl),vs=[.ref ll,v]∧H ll=some (.lst (ls.map tx))∧gF K c H0 H r v∧(r.take=[]→∀f∈r.put,f.k∈ls)∧Q .bG H
def dy (r:Rl):List Cs:=(r.cz.flatMap fun k=>[k.l,k.r])++((r.put.flatMap (·.as))++(r.tell.flatMap fun p=>[p.1,p.2]))
def Dl (K:Wo) (c:Cl):Sp:=fun vs H Q _=>∃(H0:Hp) (v:V) (r:Rl),vs=[v]∧gF K c H0 H r v∧(dy r).length≤20000∧∀u H',aj H H'→nI H H' u (dy r)→Q u H'
def xc (K:Wo) (c:Cl):Sp:=fun vs H Q _=>∃(H0:Hp) (v:V) (r:Rl),vs=[v]∧gF K c H0 H r v∧(dy r).length≤20000∧(∀a∈dy r,aR a=true)∧(∀a∈dy r,great a=true→a∈opens (r.take++r.keep))∧∀H',aj H H'→Q .bG H'
structure pY (ks:List Kd) (r:Rl):Prop where
 fits:∀f∈r.take++r.keep++r.put,w5 ks f
 takes:∀f∈r.take,f.k∉(ks.filter (·.l)).map (·.n)
 calls:r.take=[]→∀f∈r.put,f.k∈(ks.filter (·.l)).map (·.n)
 OD:∀a∈dy r,great a=true→a∈opens (r.take++r.keep)
 names:∀a∈dy r,aR a=true
 few:(dy r).length≤20000
 OE:(r.take++r.keep++r.put).length≤20000
def Af (K:Wo) (c:Cl):Sp:=fun vs H Q _=>∃(H0:Hp) (lk lr:WA) (ks:List Kd) (rs:List Rl) (kvs jU:List V),vs=[.ref lk,.ref lr]∧pX K c H0 H lk lr ks rs kvs jU∧(ks.map (·.n)).Nodup∧(∀r∈rs,pY ks r) ∧
 ∀x dx fs H',aj H H'→H x=none→H' x=some (.ins c.book dx fs)→fs.lookup ("kinds":Str)=some (.ref lk)→fs.lookup ("rules":Str)=some (.ref lr)→Q (.ref x) H'
theorem lP:∀(ps acc:List (Key × V)),((acc++ps).map (·.1)).Nodup→fT acc ps=acc++ps
 | [],acc,_=>by show acc=acc++[];rw [Xh]
 | p::r,acc,h=>by
  have hn:bt acc p.1=none:=sV fun q hq e=>by
   rw [WQ,Xd,Ye] at h
   exact h.2.2 q.1 (Xu.mpr ⟨q,hq,rfl⟩) p.1 WY e
  have ih:=lP r (acc++[p]) (by rw [WK];exact h)
  show fT (putK acc p.1 p.2) r=_
  rw [wH _ hn,ih,WK]
  rfl
theorem sX:∀{ps:List (Key × V)} {k:Key} {v:V},(ps.map (·.1)).Nodup→(k,v)∈ps→bt ps k=some v
 | p::r,k,v,hn,h=>by
  rw [Xd,YI] at hn
  rcases WS.mp h with e|h
  ·subst e;exact i0 rfl
  ·have:p.1≠k:=fun e=>hn.1 (Xu.mpr ⟨(k,v),h,e.symm⟩)
   rw [i6 this]
   exact sX hn.2 h
theorem mR {α:Type} (g:α→List Cs) (l:List α) (i:Nat):((l.take i).flatMap g).length≤(l.flatMap g).length:=by
 have e:l.flatMap g=(l.take i).flatMap g++(l.drop i).flatMap g:=by rw [← XR,X7]
 rw [e,Wq]
 omega
def nN (k:Kd):Key × V:=(W3 (S k.n),.int k.c)
theorem nO {K:Wo} {H:Hp}:∀{ks:List Kd} {ys:List V},Paired (fun(k:Kd) (y:V)=>∃t,y=.ref t∧da K H t [tx k.n,.int k.c]) ks ys→z8 K H (ks.map nN) ys
 | _,_,.nil=>.nil
 | _,_,.cons r t=>.cons r (nO t)
theorem nP {ks:List Kd} (h:(ks.map (·.n)).Nodup):((ks.map nN).map (·.1)).Nodup:=by
 rw [XT]
 have e:((fun p:Key × V=>p.1) ∘ nN)=(fun n:Cs=>(W3 (S n):Key)) ∘ (fun k:Kd=>k.n):=rfl
 rw [e,← XT]
 exact List.pairwise_map.mpr (List.Pairwise.imp (fun hne e=>hne (sS (ZE e))) h)
end Bk
namespace Bk
open PySem L2 bB
inductive It where
 | kind (k:Kd)
 | rule (title:Cs) (L:List Pr)
def It.ps:It→List Cs
 | .kind k=>KS k
 | .rule t L=>Ih t L
end Bk
namespace L2
open PySem PySem.Spec PyProof.Rows
section
variable {X:Cx}
end
end L2
namespace L2
open PySem PySem.Spec PyProof.Rows
end L2
namespace Bk
open PySem L2 bB
abbrev uu:Str:="abcdefghijklmnopqrstuvwxyz0123456789ABCDEFGHIJKLMNOPQRSTUVWXYZ"
theorem xf (a b:List Nat):S a++S b=S (a++b):=by
 rw [← rj (S a++S b),W8,ba,ba]
theorem Iq (cs:List Nat):Txt.join (Wn "") (cs.map fun c=>S [c])=S cs:=by
 show aaH (Wn "") _=_
 rw [Z7]
 have e:=PyProof.Rows.join_nil_signs (S cs)
 unfold PyProof.Rows.signs at e
 rw [ba] at e
 exact e
theorem uw:∀{as:List (List Nat)} {B:Nat},(∀a∈as,a.length≤B)→((as.map S).map (·.length)).sum≤as.length * B
 | [],_,_=>by simp
 | a::r,B,h=>by
  have z:=h a (by simp)
  have ih:=uw (as:=r) (B:=B) fun x hx=>h x (Ww _ hx)
  rw [Xd,Xd,ZK,aV,WC,Nat.add_mul]
  omega
theorem Dm:uu.cps.toList.all aG=true:=by decide +kernel
theorem lQ:uu.length=62:=by decide +kernel
def Dn (K:Wo):Sp:=fun vs H Q _=>∃(a:WA) (ns:List Int) (k:Int),vs=[.ref a,.int k]∧aI K H a (ns.map V.int)∧0≤k∧∀v:Int,Q (.int v) H
def Dp:Sp:=fun vs H Q _=>∃c k:Int,vs=[.int c,.int k]∧0≤k∧k≤100∧∀(v:Int) (H':Hp),aj H H'→0≤v→Q (.int v) H'
def Good (fs:List Nat) (z:List Nat):Prop:=aR z=true∧z.headD 0∈fs
def ux:Sp:=fun vs H Q _=>∃(c:Int) (n:Nat) (fs:List Nat),vs=[.int c,.int n,tx fs]∧n≤10∧10≤fs.length∧fs.length≤62∧fs.all aG=true∧fs.Nodup ∧
 ∀(l:WA) (zs:List (List Nat)) (H':Hp),aj H H'→H l=none→H' l=some (.lst (zs.map tx))→zs.length=n→(∀z∈zs,Good fs z)→zs.Nodup→Q (.ref l) H'
def uy (fs:List Nat):Sp:=fun vs H Q _=>∃(c:Int) (n:Nat),vs=[.int c,.int n]∧n≤10 ∧
 ∀(l:WA) (zs:List (List Nat)) (H':Hp),aj H H'→H l=none→H' l=some (.lst (zs.map tx))→zs.length=n→(∀z∈zs,Good fs z)→zs.Nodup→Q (.ref l) H'
def Ag (K:Wo):Sp:=fun vs H Q _=>∃(a:WA) (ns:List Int),vs=[.ref a]∧aI K H a (ns.map V.int)∧ns.length≤63∧∀H',Q (.bl true) H'
theorem uz {fs:List Nat} {c:Nat} {r:List Nat} (hc:c∈fs) (hf:fs.all aG=true) (hr:r.all aG=true) (hl:r.length≤11):Good fs ([c]++r):=by
 refine⟨?_,hc⟩
 show aR (c::r)=true
 unfold aR
 rw [Xa] at hf
 have z:(c::r).all aG=true:=by rw [XJ,hf c hc,hr];rfl
 rw [z]
 simp
 omega
theorem sign_of {x:Str} {i:Int} (h0:0≤i) (h1:i<x.length):∃c,wx x.cps.toList i=some c∧c∈x.cps.toList:=by
 have hl:=ej x
 exact⟨_,pS h0 h1,Xy (getD_get (by omega))⟩
theorem pZ {T:List Nat} {n:Nat} (h:n≤T.length):XM (S T) none (some (n:Int))=S (T.take n):=by
 have e:=CO (z:=S T) (j:=(n:Int)) (by omega) (by rw [aV];omega)
 rw [← rj (XM (S T) none (some (n:Int))),e,ba,show((n:Int)).toNat=n by omega]
theorem eD {α:Type} {n:Nat} {g:Nat→α} (h:∀i j,i<n→j<n→g i=g j→i=j):((X0 n).map g).Nodup:=by
 rw [List.nodup_iff_pairwise_ne,List.pairwise_map]
 refine List.Pairwise.imp_of_mem ?_ (List.nodup_range (n:=n))
 intro a b ha hb hne e
 exact hne (h a b (Yx.mp ha) (Yx.mp hb) e)
theorem p7 {l:List Nat} (h:l.Nodup) {i j:Nat} (hi:i<l.length) (hj:j<l.length) (e:l.getD i 0=l.getD j 0):i=j:=by
 rw [Gd9,Gd9,Ge9 hi,Ge9 hj] at e
 have e:l[i]=l[j]:=e
 have p:=List.pairwise_iff_getElem.mp h
 rcases Nat.lt_trichotomy i j with z|z|z
 ·exact absurd e (p i j hi hj z)
 ·exact z
 ·exact absurd e.symm (p j i hj hi z)
theorem Ah {a:Int} {m i j:Nat} (hi:i<m) (hj:j<m) (e:((a+(0+(i:Int))) % (m:Int)).toNat=((a+(0+(j:Int))) % (m:Int)).toNat):i=j:=by
 have m0:(0:Int)<m:=by omega
 have h1:=YQ (a+(0+(i:Int))) (b:=(m:Int)) (by omega)
 have h2:=YQ (a+(0+(j:Int))) (b:=(m:Int)) (by omega)
 have e':(a+(0+(i:Int))) % (m:Int)=(a+(0+(j:Int))) % (m:Int):=by omega
 have e3:((i:Int) - (j:Int)) % (m:Int)=0:=by
  have z:=Int.emod_eq_emod_iff_emod_sub_eq_zero.mp e'
  have z2:a+(0+(i:Int)) - (a+(0+(j:Int)))=(i:Int) - (j:Int):=by omega
  rw [z2] at z
  exact z
 obtain⟨k,hk⟩:=Int.dvd_of_emod_eq_zero e3
 have TU:k=0:=by
  rcases Int.lt_trichotomy k 0 with h|h|h
  ·have:(m:Int) * k≤-(m:Int):=by
    have:=Y5 (show k≤-1 by omega) (Int.le_of_lt m0)
    omega
   omega
  ·exact h
  ·have:(m:Int)≤(m:Int) * k:=by
    have:=Y5 (show 1≤k by omega) (Int.le_of_lt m0)
    omega
   omega
 rw [TU] at hk
 omega
theorem Dq (ns:List Int) (lo hi:Option Int):∃ms:List Int,gU (ns.map V.int) lo hi=ms.map V.int∧ms.length≤ns.length:=by
 refine⟨(ns.drop (HT.cW ns.length 0 lo)).take (HT.cW ns.length ns.length hi - HT.cW ns.length 0 lo),?_,?_⟩
 ·unfold gU
  rw [Lm9,List.map_take,ZL]
 ·rw [WV,Xc]
  omega
theorem xg {K:Wo} {t:Wr}:XI K t t=some true:=by
 unfold XI
 rw [if_pos (beq_self_eq_true t)]
end Bk
namespace Bk
open PySem L2 bB
def nQ (c:Nat):List Cs→Cs
 | []=>[]
 | [a]=>a
 | a::r=>a++c::nQ c r
theorem sY (c:Nat):∀(ls:List Str),(aaP ⟨#[c]⟩ ls).cps.toList=nQ c (ls.map fun s=>s.cps.toList)
 | []=>rfl
 | [a]=>rfl
 | a::b::r=>by
  have ih:=sY c (b::r)
  show((a++(⟨#[c]⟩:Str))++aaP ⟨#[c]⟩ (b::r)).cps.toList=_
  rw [W8,W8,ih]
  show(a.cps.toList++[c])++_=a.cps.toList++c::_
  simp
theorem Ai:∀ls,nQ 10 ls=b6 ls
 | []=>rfl
 | [a]=>rfl
 | a::b::r=>by
  show a++10::nQ 10 (b::r)=a++10::b6 (b::r)
  rw [Ai (b::r)]
theorem Fj (c:Nat) (ls:List Cs):Txt.join ⟨#[c]⟩ (ls.map S)=S (nQ c ls):=by
 show aaH ⟨#[c]⟩ _=_
 rw [Z7,← rj (aaP ⟨#[c]⟩ (ls.map S)),sY,XT]
 have e:((fun s:Str=>s.cps.toList) ∘ S)=id:=by
  funext p
  exact ba p
 rw [e,aaw]
theorem xh:∀(ls:List Cs) (B:Nat),(∀l∈ls,l.length≤B)→(b6 ls).length≤ls.length * (B+1)
 | [],_,_=>by simp [b6]
 | [a],B,h=>by
  have:=h a (by simp)
  show a.length≤1 * (B+1)
  omega
 | a::b::r,B,h=>by
  have ih:=xh (b::r) B fun l hl=>h l (Ww _ hl)
  have h1:=h a (by simp)
  show(a++10::b6 (b::r)).length≤((b::r).length+1) * (B+1)
  rw [Wq,WC,Nat.add_mul]
  omega
def Dr (k:Kd):Cs:=(if k.l=true then aP else aW)++(32::(k.n++(32::[48+k.c])))
theorem OG {c:Nat} (h:c≤4):aG (48+c)=true:=by
 rcases(by omega:c=0∨c=1∨c=2∨c=3∨c=4) with e|e|e|e|e <;> subst e <;> decide +kernel
theorem Fl {c:Nat} (h:c≤4):(Wn (toString (c:Int)))=S [48+c]:=by
 rcases(by omega:c=0∨c=1∨c=2∨c=3∨c=4) with e|e|e|e|e <;> subst e <;> decide +kernel
end Bk
namespace Bk
open PySem L2 bB
end Bk
namespace Bk
open PySem L2 bB
theorem eE {p:Cs} {z:Str} {t:Tok} (e:z=S p):RelV (tx p) (XO z t):=⟨t,by rw [e]⟩
end Bk
namespace L2
open PySem PySem.Spec PyProof.Rows
section
variable {X:Cx} {pins:List (WA × Obj)} {σ:St} {H:Hp} {s:Ws} {h':Heap}
end
end L2
namespace L2
open PySem PySem.Spec PyProof.Rows
section
variable {prog:WM} {w:Xj} {A:Xf} {E:Wr→Ws→Prop} {s:Ws}
end
section
variable {X:Cx}
end
end L2
namespace L2
open PySem PySem.Spec PyProof.Rows
section
variable {X:Cx}
end
end L2
namespace L2
open PySem PySem.Spec PyProof.Rows
section
variable {X:Cx}
end
end L2
namespace L2
open PySem PySem.Spec PyProof.Rows
section
variable {X:Cx}
end
end L2
namespace L2
open PySem PySem.Spec PyProof.Rows
section
variable {X:Cx}
end
end L2
namespace L2
open PySem PySem.Spec PyProof.Rows
section
variable {X:Cx} {pins:List (WA × Obj)} {σ:St}
end
end L2
namespace L2
open PySem PySem.Spec PyProof.Rows
section
variable {X:Cx}
end
end L2
namespace L2
open PySem PySem.Spec PyProof.Rows
end L2
namespace Bk
open PySem L2 bB
abbrev bare (n:Cs):Fc:=⟨n,[]⟩
end Bk
namespace Bk
open PySem L2 bB
def passing (ks:List Kd):List Cs:=(ks.filter fun k=>!k.l).map (·.n)
def Ir (H0 H:Hp) (row:List Int) (u:V):Prop:=∃a,u=.ref a∧H0 a=none∧H a=some (.lst (row.map V.int))
theorem Ir.bw {H0 H1 H:Hp} {row:List Int} {u:V} (d:∀b,H1 b=none→H0 b=none) (h:Ir H1 H row u):Ir H0 H row u:=by
 obtain⟨a,e,n,h1⟩:=h
 exact⟨a,e,d a n,h1⟩
end Bk
namespace L2
open PySem PySem.W PyProof.Rows
structure WO (lt:Nat→Nat→Bool):Prop where
 TV:∀a b,lt a b=true→lt b a=false
 tr:∀a b c,lt b a=false→lt c b=false→lt c a=false
section
variable {lt:Nat→Nat→Bool} {n:Nat} (W:WO lt)
include W
end
end L2
namespace L2
open PySem PySem.W PySem.Calls PyProof.Rows
section
variable {prog:WM} {w:Xj} {A:Xf} {E:Wr→Ws→Prop} {s:Ws}
end
end L2
namespace L2
open PySem PySem.W PySem.Calls PyProof.Rows
inductive Tr where
 | int (i:Int)|str (x:Str)|tup (l:List Tr)
 deriving Inhabited
end L2
namespace L2
open PySem PySem.W PySem.Calls PyProof.Rows
section
open PySem.SeqAt
open PySem.AutoSeq1 (wpAny_loadPart')
open PySem.MeetsSeq PySem.MeetsSeq2 PySem.MeetsSeq3
end
end L2
namespace L2
open PySem PySem.W PySem.Calls PyProof.Rows
end L2
namespace L2
open PySem PySem.W PySem.Calls PyProof.Rows
section
variable {prog:WM} {w:Xj} {A:Xf} {E:Wr→Ws→Prop} {s:Ws} {Q:Bool→Ws→Prop}
end
section
variable {X:Cx}
end
end L2
namespace L2
open PySem PySem.Spec PyProof.Rows
section
variable {X:Cx} {pins:List (WA × Obj)} {σ:St} {H H':Hp} {s:Ws}
end
section
variable {X:Cx} {o e f:Expr} {td ty tx:TE} {apos cpos:Pos}
end
end L2
namespace dF
open PySem
end dF
namespace dF
end dF
namespace dF
open PySem
end dF
namespace dF
open PySem
end dF
namespace dF
open PySem
end dF
namespace dF
open PySem
end dF
namespace dF
open PySem
end dF
namespace dF
open PySem
section
variable {prog:WM} {w:Xj} {A:Xf} {E:Wr→Ws→Prop} {s:Ws} {a:WA} {o:Obj} {es:Array (Int × Wr)} {ep:Nat} {t:SetTable} {x:Wr} {h:Int} {eqv:Nat→Bool} {Q:SetFound→Ws→Prop}
end
end dF
namespace dF
open PySem
section
variable {prog:WM} {w:Xj} {A:Xf} {E:Wr→Ws→Prop} {s:Ws} {a:WA} {es:Array (Int × Wr)} {x:Wr} {h:Int} {eqv:Nat→Bool} {l:Bool}
end
end dF
namespace L2
open PySem PySem.Spec PyProof.Rows
end L2
namespace L2
open PySem PySem.Spec PyProof.Rows
section
variable {X:Cx} {pins:List (WA × Obj)} {σ:St} {H:Hp} {s:Ws}
end
end L2
namespace L2
open PySem PySem.Spec PyProof.Rows
section
variable {X:Cx} {pins:List (WA × Obj)} {σ:St} {H:Hp} {s:Ws}
end
end L2
namespace L2
open PySem PySem.Spec PyProof.Rows dF
section
variable {X:Cx} {pins:List (WA × Obj)} {σ:St} {H:Hp} {s:Ws} {a:WA} {es:Array (Int × Wr)} {tr:List Tr} {t:Tr} {x:V} {u:Wr} {l:Bool}
end
end L2
namespace L2
open PySem PySem.Spec PyProof.Rows dF
section
variable {X:Cx} {pins:List (WA × Obj)} {σ:St} {H:Hp} {s:Ws} {a it l:WA} {ts:List Tr} {ys:List V} {its:List Wr} {ld:Bool}
end
end L2
namespace PySem
section
variable {prog:WM} {w:Xj} {A:Xf} {E:Wr→Ws→Prop} {s:Ws}
end
end PySem
namespace PySem.F
end PySem.F
namespace dF
open PySem
section
variable {M:Model} {A:Xf} {E:Wr→Ws→Prop} {s:Ws}
end
end dF
namespace dF
open PySem
section
variable {prog:WM} {w:Xj} {A:Xf} {E:Wr→Ws→Prop} {s:Ws} {I a T:WA} {first:Wr} {i ep:Nat} {es:Array (Int × Wr)} {t:SetTable} {pl:List Nat} {ord:List Wr}
end
end dF
namespace dF
open PySem
section
variable {prog:WM} {w:Xj} {A:Xf} {E:Wr→Ws→Prop} {s:Ws} {a:WA} {ep:Nat} {es:Array (Int × Wr)} {t:SetTable}
end
end dF
namespace dF
open PySem PySem.W PyProof.Rows
section
variable {prog:WM} {w:Xj} {A:Xf} {E:Wr→Ws→Prop} {s:Ws} {a:WA} {ep:Nat} {es:Array (Int × Wr)} {t:SetTable}
end
end dF
namespace L2
open PySem PySem.Spec PyProof.Rows dF
section
variable {X:Cx}
end
end L2
namespace L2
open PySem PySem.Spec PyProof.Rows
section
variable {X:Cx} {pins:List (WA × Obj)} {σ:St} {H:Hp} {s:Ws}
end
section
variable {X:Cx} {e:Expr} {te:TE} {pre:Str} {j:Nat} {p1 p2 p3:Pos}
end
def g6 (P:WM) (w:Xj) (K:Wo) (mg:Str→Option Wr) (base:Heap) (x:Str) (k:Nat) (ps:List Str) (sp:Sp):Prop :=
 ∃f fd,aU P w K mg base (oz P w) k f fd ps sp∧Binds K fd ps []∧X8 K (.ref f)=true∧mg x=some (.ref f)
section
variable {P:WM} {w:Xj} {K:Wo} {mg:Str→Option Wr} {base:Heap} {N:List Str} {qual:Str} {scope:Scope} {f:WA} {cd:Wr} {A:Xf} {outer:List Env} {s₀:Ws} {H₀:Hp} {E:XK} {x:Str} {k:Nat} {ps:List Str} {sp:Sp} {p pos:Pos} {e:Expr} {es:List Expr} {t:TA}
theorem cn (c:g6 P w K mg base x k ps sp) (hr:cS k (cQ P w K mg base N qual scope f cd A outer s₀ H₀ E).A) (hg:Gl (cQ P w K mg base N qual scope f cd A outer s₀ H₀ E) x) (ha:PA (cQ P w K mg base N qual scope f cd A outer s₀ H₀ E) (e::es) t)
  (rb:(x == ("__debug__":Str))=false:=by decide) (he:starEach (e::es) (cQ P w K mg base N qual scope f cd A outer s₀ H₀ E).env=(false,eval e (cQ P w K mg base N qual scope f cd A outer s₀ H₀ E).env)::starEach es (cQ P w K mg base N qual scope f cd A outer s₀ H₀ E).env:=by rfl)
  (hpl:(backTo pos (starEach es (cQ P w K mg base N qual scope f cd A outer s₀ H₀ E).env)).any (·.1)=false:=by rfl):PE (cQ P w K mg base N qual scope f cd A outer s₀ H₀ E) (.Call (.Name x p) (e::es) [] pos) (Cz sp [] E t):=by
 obtain⟨f',fd,F,b,kp,mg⟩:=c
 exact zQ F hr hg mg kp b .nil Kw ha rb he hpl
end
section
variable {X:Cx} {x:Str} {k:Nat} {ps:List Str} {sp:Sp} {p pos:Pos} {e:Expr} {es:List Expr} {t:TA} {pn:List (WA × Obj)} {R:Wr→St→Hp→Prop}
theorem p8 (c:g6 X.prog X.w X.K X.mg X.base x k ps sp) (hr:cS k X.A) (hg:Gl X x) (ha:PA (eS X pn R) (e::es) t) (rb:(x == ("__debug__":Str))=false:=by decide) (he:starEach (e::es) X.env=(false,eval e X.env)::starEach es X.env:=by rfl) (hpl:(backTo pos (starEach es X.env)).any (·.1)=false:=by rfl) :
  PE (eS X pn R) (.Call (.Name x p) (e::es) [] pos) (CS sp [] R t):=by
 obtain⟨f',fd,F,b,kp,mg⟩:=c
 exact CT F hr hg mg kp b .nil ha rb he hpl
end
end L2
namespace L2
open PySem PySem.Spec PyProof.Rows
section
variable {X:Cx}
end
end L2
namespace Bk
open PySem L2 bB
def TX (p:Cs):Prop:=p≠[]∧p.length≤100∧∀c∈p,c<16 ^ 8
theorem fU (l:List Cs):l.map tx=(l.map S).map V.str:=by rw [XT];rfl
end Bk
namespace Bk
open PySem L2 bB
def M4 (acc:List Cs) (n:Cs):List Cs:=if great n=true then (if n∈acc then acc else acc++[n]) else acc
def kn (acc ns:List Cs):List Cs:=ns.foldl M4 acc
end Bk
namespace L2
open PySem PySem.Spec PyProof.Rows
end L2
namespace Bk
open PySem L2 bB
end Bk
namespace L2
open PySem
end L2
namespace Bk
open PySem L2 bB
end Bk
namespace L2
end L2
namespace L2
open PySem PySem.Spec PyProof.Rows
section
variable {X:Cx}
end
end L2
namespace Bk
open PySem L2 bB
structure K4 (ks:List Kd):Prop where
 len:ks.length=4
 nd:(ks.map (·.n)).Nodup
 ok:∀k∈ks,aR k.n=true∧k.c≤4
end Bk
namespace Bk
open PySem L2 bB
end Bk
namespace Bk
open PySem L2 bB
end Bk
namespace L2
theorem lR {t1 t2:TS} {D:Ends} {σ:St} {H:Hp} (Good:St→Hp→Prop) (h:(∀σ' H',Good σ' H'→t2 D σ' H')→t1 { D with nx:=t2 D } σ H) (fin:∀σ' H',Good σ' H'→t2 D σ' H'):JU t1 t2 D σ H:=h fin
end L2
namespace Bk
open PySem L2 bB
end Bk
namespace Bk
open PySem L2 bB
end Bk
namespace L2
theorem cq {i:Nat} {x:V} {σ:St} {H:Hp} {K:St→Hp→Prop} (h:K (σ.set i (some x)) H):sy i x σ H K:=h
end L2
namespace L2
end L2
namespace Bk
open PySem L2 bB
end Bk
namespace PySem.W
open PySem PySem.Spec PySem.Calls PyProof.Rows Builtin Builtin.ObjectAttr Builtin.Getset_descriptor
theorem slot_ve_ga:Slot "ValueError" "__getattribute__" "BaseException.__getattribute__" :=
 .of (owner:="BaseException") (n:="__getattribute__") (by rw [typeLookup_type,builtinLookup_eq_fast];kernel_rfl) (by decide +kernel) (by decide +kernel) (by decide +kernel)
  (by first|exact .inl (by decide +kernel)|exact .inr (by decide +kernel)) (by rw [isSubtype_type];kernel_rfl)
structure ExcKit (K:Frag) (D:WA):Prop where
 ga:findIn K (.ref D) "__getattribute__"=some (some (.builtin "BaseException.__getattribute__"))
 gt:findIn K (.ref D) "__getattr__"=some none
 cl:findIn K (.ref D) "__class__"=some (some (.builtin "object.__class__"))
 hn:specialIn K (.builtin "object.__class__") "__get__"=some (some (.builtin "getset_descriptor.__get__"))
 hs:specialIn K (.builtin "object.__class__") "__set__"=some (some (.builtin "getset_descriptor.__set__"))
 mo:mroIn K D (.type "object")=some true
 mb:mroIn K D (.type "BaseException")=some true
 ic:isClsIn K D=true
section
variable {prog:WM} {w:Xj} {A:Xf} {E:Wr→Ws→Prop} {K:Frag} {x D:WA} {ox:Obj}
theorem yM {tp:Wr} {s:Ws} {R:Result→Ws→Prop} (X:K.In s.heap) (hx:s.heap.get? x=some ox) (hc:ox.cls=.ref D) (hm:mroIn K D (.type "object")=some true)
  (h:R (.ok (.ret (.ref D))) s):codeAny (model prog w) A (.call (.builtin "getset_descriptor.__get__") ⟨[.builtin "object.__class__",.ref x,tp],[]⟩) R s:=by
 obtain⟨hh,g,dr,t,os⟩:=s
 have L0:Looks (model prog w) hh (typeOf (.ref x)) (.ref D):=by rw [← hc];exact(ZX hx).andThen .now
 have L1:=looks_mroIn (M:=model prog w) X hm
 refine codeAny_call_builtin KF.slot_gs.plain KF.entry_gs (KF.slot_gs.check _ _ _ _ _ _ _ _ aaC (KF.args_gs _ _ _) ?_)
 unfold Builtin.«getset_descriptor.__get__» descrGet
 rw [dga_obj]
 refine Wu (WI ?_)
 unfold descrGetter descrCheckInstance descrNameAndClass isInstance
 simp only [KF.owner_class]
 repeat lk
 refine⟨Code.quiet_builtin _ (by decide +kernel),codeAny_builtin KF.entry_class ?_⟩
 unfold Builtin.«object.__class__» shownTypeOf
 repeat lk
 exact h
theorem exc_class_entry {tk:Tok} {s:Ws} {Q:Fin→Ws→Prop} (Z:ExcKit K D) (X:K.In s.heap) (hx:s.heap.get? x=some ox) (hc:ox.cls=.ref D) (hnc:notCls ox=true) (h:Q (.done (.ret (.ref D))) s) :
  W7 (model prog w) A (Builtin.«object.__getattribute__» ⟨[.ref x,.str "__class__" tk],[]⟩) Q E s:=by
 obtain⟨hh,g,d,t,os⟩:=s
 have L0:Looks (model prog w) hh (typeOf (.ref x)) (.ref D):=by rw [← hc];exact(ZX hx).andThen .now
 have L1:=looks_findIn (M:=model prog w) X Z.cl
 have f5:typeOf (YN "object.__class__")=pure (.type "getset_descriptor"):=aaC
 have VY:(⟨hh,g,d,t,os⟩:Ws).TypeIs (.builtin "object.__class__") "getset_descriptor":=aaC
 have f6:=F.slot_gs_get.lookup
 have f7:=F.slot_gs_set.lookup
 unfold Builtin.«object.__getattribute__»
 repeat (any_goals (first|assumption|with_reducible refine Looks.at (by assumption) ?_|wp_step))
 refine yM X hx hc Z.mo ?_
 exact WI h
theorem exc_ga_check {M:Model} {GF:Wr} {s:Ws} {Q:Unit→Ws→Prop} (Z:ExcKit K D) (X:K.In s.heap) (hx:s.heap.get? x=some ox) (hc:ox.cls=.ref D) (hq:Q () s):W7 M A (checkBuiltinCall "BaseException.__getattribute__" ⟨[.ref x,GF],[]⟩) Q E s:=by
 obtain⟨hh,g,d,t,os⟩:=s
 have hk:builtinKind "BaseException.__getattribute__"=some .slot:=by decide +kernel
 have Iu:splitId "BaseException.__getattribute__"=some ("BaseException","__getattribute__"):=by decide +kernel
 have L0:Looks M hh (typeOf (.ref x)) (.ref D):=by rw [← hc];exact(ZX hx).andThen .now
 have L1:Looks M hh (isSubtype (.ref D) (.type "BaseException")) true:=looks_mroIn X Z.mb
 have LI:Looks M hh (isInstance (.ref x) (.type "BaseException")) true:=L0.andThen L1
 have ha:=F.args_bexc_ga (.ref x) GF
 simp only [checkBuiltinCall,hk,Iu]
 refine Wu (LI.at ?_)
 refine wpAny_ite_split (fun hab=>absurd hab (by decide)) fun _=>?_
 exact wpAny_of_eq ha hq
theorem Bg {s:Ws} {Q:Option Wr→Ws→Prop} (Z:ExcKit K D) (X:K.In s.heap) (hx:s.heap.get? x=some ox) (hc:ox.cls=.ref D) (hnc:notCls ox=true) (h:Q (some (.ref D)) { s with toks:=s.toks+1 }) :
  W7 (model prog w) A (getAttr? (.ref x) "__class__") Q E s:=by
 obtain⟨hh,g,d,t,os⟩:=s
 have L0:Looks (model prog w) hh (typeOf (.ref x)) (.ref D):=by rw [← hc];exact(ZX hx).andThen .now
 have L1:=looks_findIn (M:=model prog w) X Z.ga
 have L2:=looks_findIn (M:=model prog w) X Z.gt
 have OH:(YN "BaseException.__getattribute__" == YN "object.__getattribute__")=false:=by decide +kernel
 have Iv:(onTheHeap (Xg D) && YN "BaseException.__getattribute__" == YN "object.__getattribute__")=false:=by rw [OH];rfl
 unfold getAttr? getAttrBy? getAttrBy
 refine Wu (wpAny_mkText (Wu (wpAny_attempt (wpAny_holding (Wu (L0.at (Wu (L1.at ?_))))))))
 dsimp only
 rw [Iv]
 refine wpAny_ite_split (fun hab=>absurd hab (by decide)) fun _=>?_
 unfold getAttrByItsOwn hookBefore
 have f3:=slot_ve_ga.bind (.ref x)
 refine Wu (show W7 (model prog w) A (typeLookup (Xg D) (Wn "__getattr__")) _ _ _ from L2.at ?_)
 refine Wu (wpAny_attempt (wpAny_holding ?_))
 unfold callGetattribute
 refine wpAny_ite_split (fun hab=>absurd hab (by decide)) fun _=>?_
 repeat (any_goals (first|assumption|wp_step))
 refine codeAny_call_builtin slot_ve_ga.plain F.entry_bexc_ga (exc_ga_check Z X hx hc (exc_class_entry Z X hx hc hnc ?_))
 exact handed_on rfl (WI h)
theorem kitx_exc (Z:ExcKit K D):KitX K (.ref x) (.ref D) (fun h=>h.get? x=some ox∧ox.cls=.ref D∧notCls ox=true) where
 ty:=fun _ _ _ p=>by rw [← p.2.1];exact(ZX p.1).andThen .now
 it:=fun _ _ X _=>by
  have EE:(clsIn K D).isSome=true:=Z.ic
  unfold clsIn at EE
  split at EE
  ·rename_i c' d' TY sl' ho
   intro A' Q' E' s' k q
   unfold isType loadHead
   exact Wu (wpAny_loadPart (k _ _ (X _ _ ho)) (WI q))
  ·cases EE
 ne:=fun h tp dd its n sl X TZ=>by
  have EE:(clsIn K D).isSome=true:=Z.ic
  refine Bool.eq_false_iff.mpr fun q=>?_
  have e:D=tp:=Value.ref.inj (beq_iff_eq.mp q)
  subst e
  unfold clsIn at EE
  split at EE
  ·rename_i c' d' TY sl' ho
   have z:=(X _ _ ho).symm.trans TZ
   cases z
  ·cases EE
 ca:=fun X p k=>Bg Z X p.1 p.2.1 p.2.2 k
end
end PySem.W
namespace L2
open PySem PySem.Spec PyProof.Rows
section
variable {X:Cx} {x:WA} {oe:Obj} {cls:Wr}
def yN (K:Wo) (x:WA) (cls:Wr):List V→Hp→VK→Prop:=fun xs H Q=>∃(y:V) (C:Wr) (D:WA) (b:Bool),xs=[.ref x,y]∧((∃c,y=.ref c∧C=.ref c)∨∃n,y=.ty n∧C=.type n)∧cls=.ref D∧PySem.W.ExcKit K D∧XI K (.ref D) C=some b∧Q (.bl b) H
theorem gG (hp:(x,oe)∈X.pn) (hc:oe.cls=cls) (hnc:Zu oe=true):dZ X (.builtin "isinstance") (yN X.K x cls):=by
 intro pins s σ H xs us Q I r h
 obtain⟨y,C,D,b,rfl,hy,e,Z,hk,q⟩:=h
 obtain⟨u,u2,rfl,rx,ru⟩:=vals2 r
 cases (show u=Xg x from rx)
 have e2:u2=C:=by
  rcases hy with⟨c,rfl,rfl⟩|⟨n,rfl,rfl⟩
  ·exact ru
  ·exact ru
 subst e2
 have hx:=(I.pin (x,oe) (Xx _ hp)).1
 exact PySem.W.kia_one (PySem.W.kitx_exc (ox:=oe) Z) I.vY ⟨hx,hc.trans e,hnc⟩ hk (by intro z;cases z) fun tk=>⟨.bl b,H,I.tok _,rfl,q⟩
end
abbrev jd (X:Cx) (x:WA) (oe:Obj):Cx:={ X with A:=X.A.mark (some (.ref x)),calm:=false,pn:=X.pn++[(x,oe)],xe:=fun _ _=>False }
def T2 (K:Wo) (C:Wr) (i:Nat) (ts:WA→Wr→TS) (tr:Wr→TS):Wr→TS:=fun cls D σ H=>∃b,YV K cls C=some b ∧
 (b=true→∀x,ts x cls { nx:=fun σ H=>D.nx (σ.set i none) H,rt:=D.rt,bk:=fun σ H=>D.bk (σ.set i none) H,ct:=fun σ H=>D.ct (σ.set i none) H } (σ.set i (some (.ref x))) H)∧(b=false→tr cls D σ H)
theorem Iw {X:Cx} {pins:List (WA × Obj)} {σ:St} {H:Hp} {s:Ws} {M:Model} {A:Xf} {E:Wr→Ws→Prop} {i:Nat} {n:Str} {Q:Bool→Ws→Prop} (I:Inv X pins σ H s) (hN:X.N.Nodup) (hi:X.N[i]?=some n) (hk:X.env.scope.names.lookup n=some .local)
  (hv:∃v,σ[i]?=some (some v)) (h:∀s',Inv X pins (σ.set i none) H s'→Q true s'):W7 M A (nsDel X.env.locals n) Q E s:=by
 obtain⟨m,hn,hl⟩:=id I.loc
 have AV:=I.AV
 obtain⟨v0,hv0⟩:=hv
 have KU:(m n).isSome=true:=by
  obtain⟨u,r,q⟩:=hl i n v0 hi hv0 (.inl hk)
  rcases q with⟨_,e⟩|⟨k,c,e,z⟩
  ·rw [e];rfl
  ·have hk':X.env.kindOf n=some .local:=hk
   rcases k with k|k <;> rw [hk'] at k <;> cases k
 refine wpAny_nsDel_keeps hn fun h' v hn' hs=>?_
 rw [KU]
 have tracked:gO X.prog X.w H h':=fun b ob e=>by
  refine(I.hok b ob e).wc (fun c w' hc q=>(hs.2 c ?_).trans q) (fun _ q=>q) fun _ _ q=>q
  rintro rfl
  rcases hc with rfl|hc
  ·rw [I.free] at e;cases e
  ·rw [I.free] at hc;cases hc
 refine h _ ⟨I.ok,I.os,I.bare,⟨fun b o e nn hb hx=>?_,fun b o e nn hb hx=>?_,I.base.free,fun b o e hx=>?_,I.base.fi,I.base.eV,I.base.fj⟩,⟨_,hn',fun j y v' e1 e2 e3=>?_⟩,fun y c e=>?_,I.free,I.fm,fun p hp=>?_,tracked,by rw [List.length_set];exact I.len⟩
 ·exact(hs.2 b (W2 (WR (WH e) I.ok.above))).trans (I.base.keep b o e nn hb hx)
 ·obtain⟨sl,e1⟩:=I.base.slot b o e nn hb hx
  exact⟨sl,(hs.2 b (W2 (WR (WH e) I.ok.above))).trans e1⟩
 ·obtain⟨o',e1⟩:=I.base.there b o e hx
  exact⟨o',(hs.2 b (W2 (WR (WH e) I.ok.above))).trans e1⟩
 ·by_cases hj:j=i
  ·subst hj
   rw [Ym (Wv.mp hv0).1] at e2
   cases e2
  ·rw [Y6 (Xl hj)] at e2
   obtain⟨u',r',q⟩:=hl j y v' e1 e2 e3
   refine⟨u',r',?_⟩
   rcases q with⟨k,e⟩|⟨k,c,e,z⟩
   ·refine .inl ⟨k,?_⟩
    have:y≠n:=fun e=>hj (pw hN e1 (e ▸ hi))
    simp [this,e]
   ·exact .inr ⟨k,c,e,z.sameBut hs (AV y c e)⟩
 ·obtain⟨w',z⟩:=I.cell y c e
  exact⟨w',z.sameBut hs (AV y c e)⟩
 ·obtain⟨e,nn,ne,nf,d⟩:=I.pin p hp
  exact⟨(hs.2 p.1 ne).trans e,nn,ne,nf,d⟩
theorem o7 {X:Cx} {pins:List (WA × Obj)} {σ:St} {H:Hp} {s:Ws} {M:Model} {A:Xf} {E:Wr→Ws→Prop} {i:Nat} {n:Str} {pos:Pos} {Q:Unit→Ws→Prop} (I:Inv X pins σ H s) (hN:X.N.Nodup) (hi:X.N[i]?=some n) (hk:X.env.scope.names.lookup n=some .local)
  (h:∀s',Inv X pins (σ.set i none) H s'→Q () s'):W7 M A (do bindName X.env n .none;unbindBehindTheSuite X.env n pos) Q E s:=by
 have hp:(X.env.scope.kind == .class || (X.env.scope.kind == .module && X.env.locals != X.env.globals))=false:=by rw [I.ok.kind];rfl
 have hl:X.env.kindOf n=some .local:=hk
 have MN:i<σ.length:=by rw [I.len];exact(Wv.mp hi).1
 refine Wu (wpAny_bindName (iS (v:=.bG) I hN hi (.inl hk) rfl (fun s1 I1=>?_) (.inr hk)))
 unfold unbindBehindTheSuite
 refine wpAny_onRaise ?_
 unfold unbindName
 refine Wu (wpAny_point (Wu ?_))
 unfold deleteName
 simp only [hl,hp]
 rw [if_neg (by decide)]
 refine Wu (Iw I1 hN hi hk ⟨.bG,Ym MN⟩ fun s2 I2=>?_)
 simp only [Bool.not_true,YK,if_false]
 rw [List.set_set] at I2
 exact WI (wpAny_point (h _ I2))
theorem KW {X:Cx} {C:Wr} {nm n:Str} {i:Nat} {np pos:Pos} {b₀:Stmt} {body:List Stmt} {rest:List ExceptHandler} {ts:WA→Wr→TS} {tr:Wr→TS} (hN:X.N.Nodup) (hi:X.N[i]?=some n) (hx:X.env.scope.names.lookup n=some .local)
  (hg:Gl X nm) (hm:X.mg nm=some C) (hs:∀a oe cls,oe.cls=cls→Zu oe=true→we (jd X a oe) (b₀::body) (ts a cls)) (hr:PH X rest tr)
  (rb:(nm == ("__debug__":Str))=false:=by decide):PH X (.ExceptHandler (some (.Name nm np)) (some n) (b₀::body) pos::rest) (T2 X.K C i ts tr):=by
 intro pins s σ H D x cls B a0 L h
 obtain⟨b,eb,ht,hf⟩:=h
 have I:Inv X pins σ H s:=L.land s.heap (Heap.UpToSlots.of_keeps fun _ _ q=>q) L.fl.1
 have Is:Inv (zZ X x) pins σ H s:=I.cx rfl (fun z=>nomatch z) fun _ q=>q
 obtain⟨oe,he,hc⟩:=L.fl.there
 have lt:PySem.W.Looks (model X.prog X.w) s.heap (typeOf (.ref x)) cls:=by
  subst hc
  exact(ZX he).andThen .now
 refine wpAny_handleBy_cons (codeAny_handlers_test (jK (X:=zZ X x) Is hg hm ((PySem.W.exm_one I.vY lt eb).here ?_) rb)) (by intro q;cases q)
 cases b with
 | false=>exact hr pins s σ H D x cls B a0 L (hf rfl)
 | true =>
  refine codeAny_handlers_suite_as (lands_againW L.fl fun h' KY sm=>?_)
  have I':Inv X pins σ H { s with heap:=h' }:=L.land h' sm KY.1
  obtain⟨Jy,vs',he',hc',hd',_⟩:=KY.first
  have OI:Zu Jy=true:=by
   unfold Zu
   rw [hd']
  have OJ:∀b∈cR X.stack,b≠x:=fun b hb e=>by
   obtain⟨_,o2,e2,hd2⟩:=KY.2.2.1.mem hb
   rw [e,he'] at e2
   cases e2
   exact absurd hd' (hd2 _)
  have Rq:x∉cR X.stack:=fun hm=>OJ x hm rfl
  have OK:x≠X.env.locals:=fun e=>by
   obtain⟨m,⟨o,es,ep,ho,Jz,_⟩,_⟩:=I'.loc
   have ho:h'.get? X.env.locals=some o:=ho
   rw [← e,he'] at ho
   cases ho
   rw [hd'] at Jz
   cases Jz
  have ET:x∉X.fs:=fun hm=>by
   rcases I.ok.Jr with z|⟨z,_⟩
   ·exact Rq (by rw [z];exact hm)
   ·refine Rq ?_
    rw [z]
    unfold cR
    rw [Yi]
    split
    ·exact hm
    ·exact Ww _ hm
  have I2:Inv (jd X x Jy) pins σ H { s with heap:=h' } :=
   ⟨I'.ok.cx rfl (fun z=>nomatch z),I'.os,I'.bare,I'.base,I'.loc,I'.cell,I'.free,I'.fm,(fun p hp=>by
    rcases WU.mp hp with q|q
    ·rcases WU.mp q with q|q
     ·exact I'.pin p (Xx _ q)
     ·have e:=Wy.mp q
      subst e
      exact⟨he',L.fr,OK,ET,fun v z=>by rw [hd'] at z;cases z⟩
    ·exact I'.pin p (WD _ q)),I'.hok,I'.len⟩
  refine iS (X:=jd X x Jy) (v:=.ref x) I2 hN hi (.inl hx) rfl (fun s1 I3=>?_) (.inr hx)
  refine wpAny_mono (hs x Jy cls hc' OI pins _ _ H _ I3 (ht rfl x)) (fun fw s2 q=>?_) fun _ _ z=>XG z
  have back:∀{σ':St} {H':Hp},Inv (jd X x Jy) pins σ' H' s2→Inv X pins σ' H' s2:=fun {σ' H'} J=>J.cx (X:=jd X x Jy) (A':=X.A) rfl I.ok.hd fun p z=>by
   rcases WU.mp z with q|q
   ·exact Xx _ (Xx _ q)
   ·exact WD _ q
  dsimp only
  cases fw with
  | next =>
   obtain⟨σ',H',J,q⟩:=q
   exact o7 (back J) hN hi hx fun s' J'=>⟨_,H',J',q⟩
  | brk =>
   obtain⟨σ',H',J,q⟩:=q
   exact o7 (back J) hN hi hx fun s' J'=>⟨_,H',J',q⟩
  | cont =>
   obtain⟨σ',H',J,q⟩:=q
   exact o7 (back J) hN hi hx fun s' J'=>⟨_,H',J',q⟩
  | ret u =>
   obtain⟨v,σ',H',J,r,q⟩:=q
   exact o7 (back J) hN hi hx fun s' J'=>⟨v,_,H',J',r,q⟩
end L2
namespace L2
open PySem PySem.Spec PyProof.Rows
section
variable {X:Cx} {e:Expr} {te:TE} {pre:Str} {j:Nat} {p1 p2 p3:Pos}
def Iy (te:TE):TE:=fun σ H Q=>te σ H fun y H1=>∃z,y=.str z∧z.length≤50000∧(∀c∈z.cps.toList,c<16 ^ 8)∧∀x,Q (.str x) H1
theorem gH (he:PE X e te) (hp:pre.length≤1000:=by decide):PE X (.JoinedStr [.Constant (.str pre) j p1,.FormattedValue e 114 none p2] p3) (Iy te):=by
 intro pins s σ H Q I h
 refine wpAny_JoinedStr ?_
 refine Zn ⟨pre,_,rfl,?_,?_⟩
 ·show(Yk++pre).length≤Wt
  rw [strLen_append,XQ]
  have:Yk.length=0:=rfl
  omega
 refine wpAny_FormattedValue_repr (thn (he pins _ σ H _ (I.tok _) h) fun u s1 ⟨y,H1,I1,r1,z,ez,hz,hc,q⟩=>?_)
 subst ez
 obtain⟨t,rfl⟩:=r1
 have hl:=aak z hc
 have hlen:(Yk++pre++reprText z).length≤Wt:=by
  rw [strLen_append,strLen_append,XQ]
  have:Yk.length=0:=rfl
  omega
 refine wpAny_pyReprObj_str ?_ (by rw [XQ];omega)
 exact wpAny_formatField_str ⟨_,_,rfl,hlen,hlen,.str _,H1,(I1.tok _).tok _,⟨_,rfl⟩,q _⟩ ⟨_,_,rfl,hlen,hlen,.str _,H1,((I1.tok _).tok _).tok _,⟨_,rfl⟩,q _⟩ (by rw [XQ];omega)
theorem nS:∀(as:List Str),(∀a∈as,a.length≤20000∧∀c∈a.cps.toList,c<16 ^ 8)→PyData.showableAll (as.map XC)=true∧((Yu (as.map XC)).map (·.length)).sum≤10 * (as.map (·.length)).sum+2 * as.length∧(Yu (as.map XC)).length=as.length
 | [],_=>⟨rfl,Wz _,rfl⟩
 | a::r,h=>by
  obtain⟨z1,z2,z3⟩:=nS r fun b hb=>h b (Ww _ hb)
  have ha:=h a (WY ..)
  have y:=aak a ha.2
  refine⟨z1,?_,?_⟩
  ·show(reprText a).length+((Yu (r.map XC)).map (·.length)).sum≤10 * (a.length+(r.map (·.length)).sum)+2 * (r.length+1)
   omega
  ·show(Yu (r.map XC)).length+1=r.length+1
   omega
theorem qa {s:Ws}:∀{as:List Str} {its:List Wr},Vals (as.map V.str) its→∃bs,ReadsAll s.heap its (as.map XC) bs
 | [],_,.nil=>⟨_,.nil⟩
 | a::r,_,.cons h t=>by
  obtain⟨tk,rfl⟩:=h
  obtain⟨bs,z⟩:=qa t
  exact⟨_,.cons (.str a tk) z⟩
def Iz (K:Wo) (te:TE):TE:=fun σ H Q=>te σ H fun y H1=>∃(a:WA) (as:List Str),y=.ref a∧aI K H1 a (as.map V.str)∧(∀b∈as,b.length≤20000∧∀c∈b.cps.toList,c<16 ^ 8)∧(as.map (·.length)).sum≤50000∧as.length≤50000∧∀x,Q (.str x) H1
theorem cY (hg:X.A.guards=some []) (hu:X.A.units+64<cLine) (he:PE X e te) (hp:pre.length≤1000:=by decide):PE X (.JoinedStr [.Constant (.str pre) j p1,.FormattedValue e 114 none p2] p3) (Iz X.K te):=by
 intro pins s σ H Q I h
 refine wpAny_JoinedStr ?_
 refine Zn ⟨pre,_,rfl,?_,?_⟩
 ·show(Yk++pre).length≤Wt
  rw [strLen_append,XQ]
  have:Yk.length=0:=rfl
  omega
 refine wpAny_FormattedValue_repr (thn (he pins _ σ H _ (I.tok _) h) fun u s1 ⟨y,H1,I1,r1,a,as,ey,hL,hb,T3,hlen,q⟩=>?_)
 subst ey
 cases (show u=Xg a from r1)
 obtain⟨its,rv,⟨o1,n1,p1,c1,d1,f1⟩,_⟩:=I1.list hL
 obtain⟨bs,rd⟩:=qa (s:=s1) rv
 obtain⟨w1,w2,w3⟩:=nS as hb
 have hR:Reads s1.heap (.ref a) (.list (as.map XC)) (a::bs):=.list p1 c1 (by assumption) (by simpa using rd)
 have EO:(aax (as.map XC)).shown.length≤1000000:=by
  show(listText (Yu (as.map XC))).length≤1000000
  have z:=listText_len_le (Yu (as.map XC))
  omega
 have VZ:(aax (as.map XC)).depth≤1:=by
  show Z8 (as.map XC)+1≤1
  have z:∀l:List Str,Z8 (l.map XC)=0:=fun l=>by
   induction l with
   | nil=>rfl
   | cons b r ih=>show max 0 (Z8 (r.map XC))=0;rw [ih];rfl
  rw [z]
  decide
 have hnd:(aax (as.map XC)).hasDict=false:=by
  show ZC (as.map XC)=false
  have z:∀l:List Str,ZC (l.map XC)=false:=fun l=>by
   induction l with
   | nil=>rfl
   | cons b r ih=>show(false || ZC (r.map XC))=false;rw [ih];rfl
  exact z as
 have Aj:(Yk++pre++(aax (as.map XC)).shown).length≤Wt:=by
  rw [strLen_append,strLen_append,XQ]
  have:Yk.length=0:=rfl
  omega
 refine pyReprObj_of_reads hR w1 (fun z=>by rw [hnd] at z;cases z) hg (by omega) (fun _ _ z=>z) (fun h' tk t' kp=>?_) (by rw [XQ];omega)
 exact wpAny_formatField_str ⟨_,_,rfl,Aj,Aj,.str _,H1,I1.kept kp,⟨_,rfl⟩,q _⟩ ⟨_,_,rfl,Aj,Aj,.str _,H1,I1.kept kp,⟨_,rfl⟩,q _⟩ (by rw [XQ];omega)
end
end L2
namespace Bk
open PySem L2 bB
def gI (l:List Cs):Option (List Cs × Nat):=if l.getD 0 []=[41] then some ([],1) else eT l
def gJ (l:List Cs):Option (Fc × Nat):=if aH (l.getD 0 [])=true then (if l.getD 1 []=[40] then (gI (l.drop 2)).map fun q=>(⟨l.getD 0 [],q.1⟩,q.2+2) else some (⟨l.getD 0 [],[]⟩,1)) else none
def uA:Nat→List Cs→Option (List Fc)
 | 0,_=>none
 | f+1,l=>(gJ l).bind fun q=>if q.2=l.length then some [q.1] else if l.getD q.2 []=[44] then (uA f (l.drop (q.2+1))).map (q.1 :: ·) else none
structure cG (ps:List Cs):Prop where
 n:ps.length≤20000
 sum:(ps.map XF).sum≤20000
 IA:∀p∈ps,∀c∈p,c<16 ^ 8
theorem g7:∀{ps:List Cs} {p:Cs},p∈ps→p.length≤(ps.map XF).sum
 | q::r,p,h=>by
  rw [Xd,ZK]
  rcases WS.mp h with rfl|h
  ·omega
  ·have:=g7 h;omega
theorem cG.at {ps:List Cs} (h:cG ps) (i:Nat):(ps.getD i []).length≤20000∧∀c∈ps.getD i [],c<16 ^ 8:=by
 rw [Gd9]
 cases e:ps[i]? with
 | none=>exact⟨Xs _,fun c hc=>nomatch hc⟩
 | some p =>
  have hm:=Xy e
  exact⟨W5 (g7 hm) h.sum,h.IA p hm⟩
theorem mS:∀(l cur:Cs),((a6 l cur).map XF).sum≤l.length+cur.length
 | [],cur=>by
  show((shut cur []).map XF).sum≤_
  unfold shut
  by_cases h:cur=[] <;> simp [h]
 | c::r,cur=>by
  show((if aG c=true then a6 r (cur++[c]) else shut cur (if c=32 then a6 r [] else [c]::a6 r [])).map XF).sum≤_
  have e1:=mS r (cur++[c])
  have e2:=mS r []
  rw [Wq,WL] at e1
  rw [Xv] at e2
  by_cases ha:aG c=true
  ·rw [if_pos ha,WC]
   omega
  ·rw [if_neg ha,WC]
   unfold shut
   by_cases h:cur=[] <;> by_cases h2:c=32 <;> simp [h,h2] <;> omega
theorem jO:∀(l cur:Cs),∀p∈a6 l cur,∀c∈p,c∈l∨c∈cur
 | [],cur,p,hp,c,hc=>by
  have hp':p∈shut cur []:=hp
  unfold shut at hp'
  by_cases h:cur=[]
  ·rw [if_pos h] at hp';cases hp'
  ·rw [if_neg h] at hp'
   rw [Wy.mp hp'] at hc
   exact .inr hc
 | d::r,cur,p,hp,c,hc=>by
  have hp':p∈(if aG d=true then a6 r (cur++[d]) else shut cur (if d=32 then a6 r [] else [d]::a6 r [])):=hp
  by_cases ha:aG d=true
  ·rw [if_pos ha] at hp'
   rcases jO r _ p hp' c hc with z|z
   ·exact .inl (Ww _ z)
   ·rcases WU.mp z with z|z
    ·exact .inr z
    ·rw [Wy.mp z];exact .inl (WY ..)
  ·rw [if_neg ha] at hp'
   have key:p∈(if d=32 then a6 r [] else [d]::a6 r [])→c∈d::r∨c∈cur:=fun hp'=>by
    by_cases h2:d=32
    ·rw [if_pos h2] at hp'
     rcases jO r _ p hp' c hc with z|z
     ·exact .inl (Ww _ z)
     ·cases z
    ·rw [if_neg h2] at hp'
     rcases WS.mp hp' with rfl|hp'
     ·rw [Wy.mp hc];exact .inl (WY ..)
     ·rcases jO r _ p hp' c hc with z|z
      ·exact .inl (Ww _ z)
      ·cases z
   unfold shut at hp'
   by_cases h:cur=[]
   ·rw [if_pos h] at hp';exact key hp'
   ·rw [if_neg h] at hp'
    rcases WS.mp hp' with rfl|hp'
    ·exact .inr hc
    ·exact key hp'
theorem cG.of {l:Cs} (h:l.length≤20000) (hc:∀c∈l,c<16 ^ 8):cG (toks l):=by
 refine⟨W5 (wQ l) h,?_,fun p hp c T4=>?_⟩
 ·have z:=mS l []
  rw [Xv] at z
  exact W5 z h
 ·rcases jO l [] p hp c T4 with z|z
  ·exact hc c z
  ·cases z
def Ref (C:WA) (H:Hp) (E:XK):Prop:=∀H',aj H H'→E (.ref C) none H'
theorem Ref.sm {C:WA} {H H':Hp} {E:XK} (h:Ref C H E) (s:aj H H'):Ref C H' E:=fun H2 s2=>h H2 (aj.trans s s2)
def sZ (C:WA):Sp:=fun vs H Q E=>∃x m,vs=[.str x,.str m]∧x.length≤20000∧(∀c∈x.cps.toList,c<16 ^ 8)∧32∉m.cps.toList∧(x.cps.toList.all (gP m)=false→Ref C H E) ∧
 (x.cps.toList.all (gP m)=true→∀(l:WA) (H':Hp),aj H H'→H l=none→H' l=some (.lst ((toks x.cps.toList).map tx))→Q (.ref l) H')
def Ak (C:WA):Sp:=fun vs H Q E=>∃(l:WA) (ps:List Cs) (p:Nat),vs=[.ref l,.int p]∧H l=some (.lst (ps.map tx))∧cG ps∧(gI (ps.drop p)=none→Ref C H E) ∧
 ∀as n,gI (ps.drop p)=some (as,n)→∀(t t2:WA) (H':Hp),aj H H'→H' t=some (.tup [.ref t2,.int ((p+n:Nat):Int)])→H' t2=some (.tup (as.map tx))→Q (.ref t) H'
def Al (C:WA):Sp:=fun vs H Q E=>∃(l:WA) (ps:List Cs) (p:Nat),vs=[.ref l,.int p]∧H l=some (.lst (ps.map tx))∧cG ps∧(gJ (ps.drop p)=none→Ref C H E) ∧
 ∀g n,gJ (ps.drop p)=some (g,n)→∀(t t1 t2:WA) (H':Hp),aj H H'→H' t=some (.tup [.ref t1,.int ((p+n:Nat):Int)])→H' t1=some (.tup [tx g.k,.ref t2])→H' t2=some (.tup (g.as.map tx))→Q (.ref t) H'
def Ds (K:Wo) (C:WA):Sp:=fun vs H Q E=>∃(l:WA) (ps:List Cs),vs=[.ref l]∧H l=some (.lst (ps.map tx))∧cG ps∧(uA (ps.length+1) ps=none→Ref C H E) ∧
 ∀fs,uA (ps.length+1) ps=some fs→∀v H',aj H H'→Facts K H H' v fs→Q v H'
theorem xi {l:List Cs} (h:aR (l.getD 0 [])=false):eT l=none:=by
 match l,h with
 | [],_=>rfl
 | [_],_=>rfl
 | a::m::r,h =>
  show(if aR a=true then _ else none)=none
  rw [if_neg (by rw [show aR a=false from h];decide)]
theorem yO {l:List Cs} (h:aR (l.getD 0 [])=true):eT l=if l.getD 1 []=[41] then some ([l.getD 0 []],2) else if l.getD 1 []=[44] then (eT (l.drop 2)).map fun q=>(l.getD 0 []::q.1,q.2+2) else none:=by
 match l,h with
 | [],h=>exact absurd h (by decide)
 | [a],h=>rfl
 | a::m::r,h =>
  show(if aR a=true then _ else none)=_
  rw [if_pos (show aR a=true from h)]
  rfl
theorem xj:∀(k:Nat) (l:List Cs),l.length≤k→∀as n,eT l=some (as,n)→1≤n∧n≤l.length
 | 0,[],_,_,_,h=>nomatch h
 | k+1,[],_,_,_,h=>nomatch h
 | k+1,[_],_,_,_,h=>nomatch h
 | k+1,a::m::r,hk,as,n,h=>by
  obtain⟨nm,mk,r',e,_,q⟩:=Be h
  cases e
  rcases q with⟨_,_,rfl⟩|⟨_,as',n',h',_,rfl⟩
  ·simp
  ·have z:=xj k r (by simp only [WC] at hk;omega) _ _ h'
   simp only [WC]
   omega
theorem Du {l:List Cs} {as:List Cs} {n:Nat} (h:gI l=some (as,n)):1≤n∧n≤l.length:=by
 unfold gI at h
 by_cases h0:l.getD 0 []=[41]
 ·rw [if_pos h0] at h
  cases h
  cases l with
  | nil=>cases h0
  | cons a r=>simp
 ·rw [if_neg h0] at h
  exact xj _ _ (Wz _) _ _ h
theorem Bh {l:List Cs} (h:aH (l.getD 0 [])=true):1≤l.length:=by
 cases l with
 | nil=>exact absurd h (by decide)
 | cons a r=>simp
theorem Dv {l:List Cs} {g:Fc} {n:Nat} (h:gJ l=some (g,n)):1≤n∧n≤l.length:=by
 unfold gJ at h
 by_cases h0:aH (l.getD 0 [])=true
 ·rw [if_pos h0] at h
  have h1:=Bh h0
  by_cases h2:l.getD 1 []=[40]
  ·rw [if_pos h2] at h
   obtain⟨q,e,z⟩:=YT.mp h
   cases z
   have:=Du (as:=q.1) (n:=q.2) e
   rw [Xc] at this
   omega
  ·rw [if_neg h2] at h
   cases h
   omega
 ·rw [if_neg h0] at h
  cases h
theorem Bi {mk:Str} (l:Cs):l.all (gP mk)=(l.drop (a8 l)).all (gP mk):=by
 induction l with
 | nil=>rfl
 | cons c r ih =>
  rw [lJ]
  by_cases h:aG c=true
  ·rw [if_pos h,List.drop_succ_cons,XJ,← ih]
   have:gP mk c=true:=by unfold gP;rw [h];rfl
   rw [this,YR]
  ·rw [if_neg h]
   rfl
def Am (x m:Str) (l:WA) (H:Hp) (n:Nat) (σ:St) (H':Hp):Prop:=∃(p:Nat) (done:List Cs) (o3 o4:Option V),n=x.length - p∧σ=[some (.str x),some (.str m),some (.ref l),some (.int p),o3,o4]∧p≤x.length∧aj H H'∧H' l=some (.lst (done.map tx))∧done++toks (x.cps.toList.drop p)=toks x.cps.toList∧x.cps.toList.all (gP m)=(x.cps.toList.drop p).all (gP m)
def GG (l ln:WA) (ps:List Cs) (o:Option (List Cs × Nat)) (p0:Nat) (H:Hp) (m:Nat) (σ:St) (H':Hp):Prop:=∃(p:Nat) (done:List Cs) (o3 o4:Option V),m=(ps.drop p).length∧σ=[some (.ref l),some (.int p),some (.ref ln),o3,o4]∧aj H H'∧H' l=some (.lst (ps.map tx))∧H' ln=some (.lst (done.map tx))∧p0≤p∧o=(eT (ps.drop p)).map (fun q=>(done++q.1,p - p0+q.2))∧done.length+(ps.drop p).length≤20000
def KZ (K:Wo) (l lf:WA) (ps:List Cs) (o:Option (List Fc)) (H:Hp) (m:Nat) (σ:St) (H':Hp):Prop:=∃(p f:Nat) (done:List Fc) (vs:List V) (o3:Option V),m=(ps.drop p).length∧σ=[some (.ref l),some (.ref lf),some (.int p),o3]∧aj H H'∧H' l=some (.lst (ps.map tx))∧H' lf=some (.lst vs)∧Paired (Fact K H') done vs∧(ps.drop p).length<f∧o=(uA f (ps.drop p)).map (done ++ ·)∧done.length+(ps.drop p).length≤20000
end Bk
namespace L2
open PySem PySem.Spec PyProof.Rows
mutual
theorem xk:∀d:Dt,zY d d=true
 | .bG=>by unfold zY;rfl
 | .bl b=>by unfold zY;exact beq_self_eq_true b
 | .int i=>by unfold zY;exact beq_self_eq_true i
 | .str x=>by unfold zY;exact beq_self_eq_true x
 | .tup ds=>by unfold zY;exact tf ds
theorem tf:∀ds:List Dt,pI ds ds=true
 | []=>by unfold pI;rfl
 | d::r=>by unfold pI;rw [xk d,tf r];rfl
end
section
variable {X:Cx}
def Alike (K:Wo) (H:Hp) (x y:V):Prop:=∃(a b:WA) (xs ys:List V) (ds:List Dt),x=.ref a∧y=.ref b∧aI K H a xs∧aI K H b ys∧ds.length=xs.length∧ds.length=ys.length∧(∀d∈ds,d.deep≤20) ∧
 (∀(i:Nat) (h0:i<ds.length) (h1:i<xs.length),yE K H ds[i] xs[i])∧(∀(i:Nat) (h0:i<ds.length) (h1:i<ys.length),yE K H ds[i] ys[i])
def OL (K:Wo):R2:=fun x y H Q=>Alike K H x y∧Q (.bl true) H
def OM (K:Wo):R2:=fun x y H Q=>Alike K H x y∧Q (.bl false) H
theorem xl {pins:List (WA × Obj)} {σ:St} {H:Hp} {s:Ws} (I:Inv X pins σ H s) (hu:X.A.units+64<cLine) {a b:WA} {xs ys:List V} {ds:List Dt} {its dt:List Wr} (GH:Vals xs its) (GI:Vals ys dt) (e1:ds.length=xs.length) (e2:ds.length=ys.length) (hd:∀d∈ds,d.deep≤20)
  (h1:∀(i:Nat) (h0:i<ds.length) (h1:i<xs.length),yE X.K H ds[i] xs[i]) (h2:∀(i:Nat) (h0:i<ds.length) (h1:i<ys.length),yE X.K H ds[i] ys[i]) (j:Nat) (j1:j<its.toArray.size) (j2:j<dt.toArray.size):aaF X.A.in1 s its.toArray[j] dt.toArray[j] true:=by
 have EV:=GH.length
 have EW:=GI.length
 have Th:j<its.length:=by simpa using j1
 have Ti:j<dt.length:=by simpa using j2
 obtain⟨u1,f1,q1⟩:=GH.get (i:=j) (x:=xs[j]'(by omega)) (by simp)
 obtain⟨u2,f2,q2⟩:=GI.get (i:=j) (x:=ys[j]'(by omega)) (by simp)
 have c1:its.toArray[j]=u1:=by
  have z:=Wv.mp f1
  simpa using z.2
 have c2:dt.toArray[j]=u2:=by
  have z:=Wv.mp f2
  simpa using z.2
 rw [c1,c2]
 have z:=HN I rfl 20 X.A.in1 (hd _ (WT (show j<ds.length by omega))) (by show X.A.units+1+20<cLine;omega) (h1 j (by omega) (by omega)) (h2 j (by omega) (by omega)) q1 q2
 rw [xk] at z
 exact z
theorem yP (hu:X.A.units+64<cLine):ow X (compareOp .Eq) (OL X.K):=by
 intro pins s σ H x y v u Q I rx ry h
 obtain⟨⟨a,b,xs,ys,ds,rfl,rfl,g1,g2,l1,l2,hd,h1,h2⟩,q⟩:=h
 cases rx
 cases ry
 obtain⟨its,GH,⟨o1,n1,p1,c1,d1,f1⟩,_⟩:=I.list g1
 obtain⟨dt,GI,⟨o2,n2,p2,c2,d2,f2⟩,_⟩:=I.list g2
 have i1:s.heap.IsList a its.toArray:=⟨o1,p1,c1,n1,by assumption⟩
 have i2:s.heap.IsList b dt.toArray:=⟨o2,p2,c2,n2,by assumption⟩
 have EV:=GH.length
 have EW:=GI.length
 refine SeqAt.RcAt.lists (e:=fun _=>true) i1 i2 (by simp;omega) (by omega) (fun j j1 j2=>xl (a:=a) (b:=b) I hu GH GI l1 l2 hd h1 h2 j j1 j2) _ _ _ _ ?_
 refine⟨.bl _,H,I,rfl,?_⟩
 have e:(X0 its.toArray.size).all (fun _=>true)=true:=by simp
 rw [e]
 exact q
theorem IB (hu:X.A.units+64<cLine):ow X (compareOp .NotEq) (OM X.K):=by
 intro pins s σ H x y v u Q I rx ry h
 obtain⟨⟨a,b,xs,ys,ds,rfl,rfl,g1,g2,l1,l2,hd,h1,h2⟩,q⟩:=h
 cases rx
 cases ry
 obtain⟨its,GH,⟨o1,n1,p1,c1,d1,f1⟩,_⟩:=I.list g1
 obtain⟨dt,GI,⟨o2,n2,p2,c2,d2,f2⟩,_⟩:=I.list g2
 have i1:s.heap.IsList a its.toArray:=⟨o1,p1,c1,n1,by assumption⟩
 have i2:s.heap.IsList b dt.toArray:=⟨o2,p2,c2,n2,by assumption⟩
 have EV:=GH.length
 have EW:=GI.length
 refine SeqAt.RcNeAt.lists (e:=fun _=>true) i1 i2 (by simp;omega) (by omega) (fun j j1 j2=>xl (a:=a) (b:=b) I hu GH GI l1 l2 hd h1 h2 j j1 j2) _ _ _ _ ?_
 refine⟨.bl _,H,I,rfl,?_⟩
 have e:(X0 its.toArray.size).all (fun _=>true)=true:=by simp
 rw [e]
 exact q
theorem Alike.plain {K:Wo} {H:Hp} {a b:WA} {ds:List Dt} {xs:List V} (h1:aI K H a xs) (h2:aI K H b xs) (hl:ds.length=xs.length) (hd:∀d∈ds,d.deep≤20) (h:∀(i:Nat) (h0:i<ds.length) (h1:i<xs.length),yE K H ds[i] xs[i]):Alike K H (.ref a) (.ref b) :=
 ⟨a,b,xs,xs,ds,rfl,rfl,h1,h2,hl,hl,hd,h,h⟩
theorem Alike.bools {K:Wo} {H:Hp} {a b:WA} {bs:List Bool} (h1:aI K H a (bs.map V.bl)) (h2:aI K H b (bs.map V.bl)):Alike K H (.ref a) (.ref b):=by
 refine .plain (ds:=bs.map Dt.bl) h1 h2 (by simp) (fun d hd=>?_) fun i h0 h1=>?_
 ·obtain⟨b,_,rfl⟩:=Xu.mp hd
  simp [Dt.deep]
 ·rw [Xw,Xw]
  exact .bl _
theorem Alike.texts {K:Wo} {H:Hp} {a b:WA} {bs:List Str} (h1:aI K H a (bs.map V.str)) (h2:aI K H b (bs.map V.str)):Alike K H (.ref a) (.ref b):=by
 refine .plain (ds:=bs.map Dt.str) h1 h2 (by simp) (fun d hd=>?_) fun i h0 h1=>?_
 ·obtain⟨b,_,rfl⟩:=Xu.mp hd
  simp [Dt.deep]
 ·rw [Xw,Xw]
  exact .str _
end
end L2
namespace L2
open PySem PySem.Spec PyProof.Rows
section
variable {X:Cx}
end
end L2
namespace PySem
open Sem (wp)
section
variable {prog:WM} {w:Xj}
variable {A:Xf} {E:Wr→Ws→Prop} {s:Ws}
end
end PySem
namespace L2
open PySem PySem.Spec PyProof.Rows
section
variable {X:Cx} {pins:List (WA × Obj)} {σ:St} {H:Hp} {s:Ws} {a:WA} {xs:List FE} {k:FK} {y:V} {u r:Wr} {A:Xf} {E:Wr→Ws→Prop}
end
section
variable {X:Cx} {o i e f value:Expr} {pos pos' Kh apos cpos:Pos} {td ty tv tz:TE}
end
end L2
namespace L2
open PySem PySem.Spec PyProof.Rows
section
variable {X:Cx} {pins:List (WA × Obj)} {σ:St} {H:Hp} {s:Ws} {a it l:WA} {ys:List V} {its:List Wr} {ps:List (Key × V)}
end
end L2
namespace L2
open PySem PySem.Spec PyProof.Rows
section
variable {X:Cx}
end
end L2
namespace Bk
section
variable {α:Type} [DecidableEq α]
end
end Bk
namespace Bk
open PySem L2 bB
deriving instance DecidableEq for Fc
end Bk
namespace L2
open PySem PySem.Spec PyProof.Rows Bk
end L2
namespace Bk
open PySem L2 bB
end Bk
namespace Bk
open PySem L2 bB
end Bk
namespace Bk
open PySem L2 bB
end Bk
namespace Bk
open PySem L2 bB
end Bk
namespace Bk
open PySem L2 bB
end Bk
namespace Bk
open PySem L2 bB
end Bk
namespace Bk
open PySem L2 bB
end Bk
namespace Bk
open PySem L2 bB
end Bk
namespace Bk
open PySem L2 bB
end Bk
namespace Bk
open PySem L2 bB
end Bk
namespace R3
variable (K0 sm:Nat→Bool)
structure Sg:Prop where
 V0:K0 32=false
 V1:K0 40=false
 V2:K0 41=false
 V3:K0 44=false
variable (S:Sg K0)
include S
end R3
namespace Bk
open PySem L2 bB
end Bk
namespace Bk
open PySem L2 bB
def An (g:Fc):Cs:=if g.as=[] then g.k else ((g.k++[40])++nQ 44 g.as)++[41]
def Dw:List Cs→Cs
 | []=>[]
 | [a]=>a
 | a::r=>a++44::32::Dw r
structure FG (g:Fc):Prop where
 k:aH g.k=true
 as:∀a∈g.as,aR a=true
 n:g.as.length≤4
theorem K6 {p:Cs} (h:aR p=true):p.all aG=true∧p≠[]:=by
 unfold aR at h
 simp only [WG,decide_eq_true_eq] at h
 exact⟨h.2.2,fun e=>by rw [e] at h;simp at h⟩
theorem Bj {f:Nat→Bool} (Ao:f 44=true):∀(as:List Cs),(∀a∈as,a.all f=true)→(nQ 44 as).all f=true
 | [],_=>rfl
 | [a],h=>h a (WY ..)
 | a::b::t,h=>by
  have ih:=Bj Ao (b::t) fun x hx=>h x (Ww _ hx)
  show(a++44::nQ 44 (b::t)).all f=true
  rw [Xi,XJ,ih,Ao,h a (WY ..)]
  rfl
end Bk
namespace L2
open PySem PySem.Spec PyProof.Rows Bk
section
variable {te:TE} {aQ:List Nat} {σ:St} {H1:Hp} {Q:VK} {K:Wo} {a:WA} {xs:List V} {D:WA} {gs:List V}
end
end L2
namespace L2
open PySem PySem.Spec PyProof.Rows
section
variable {X:Cx}
end
end L2
namespace L2
open PySem PySem.Spec PyProof.Rows
section
variable {X:Cx} {pins:List (WA × Obj)} {σ:St} {H:Hp} {s:Ws} {a it l:WA} {ks:List Str} {its:List Wr}
end
end L2
namespace Un
section
variable {α:Type} [DecidableEq α] (great:α→Bool) (lt:α→α→Bool)
variable {great lt}
end
end Un
namespace Bk
open PySem L2 bB
end Bk
namespace Bk
open PySem L2 bB
end Bk
namespace Bk
open PySem L2 bB
end Bk
namespace L2
open PySem PySem.Spec PyProof.Rows Bk
end L2
namespace Bk
open PySem L2 bB
end Bk
namespace Bk
open PySem L2 bB
end Bk
namespace Bk
open PySem L2 bB
end Bk
namespace Bk
end Bk
namespace Bk
open PySem L2 bB
end Bk
namespace Bk
open PySem L2 bB
end Bk
namespace Bk
open PySem L2 bB
end Bk
namespace L2
open PySem PySem.Spec PyProof.Rows Bk
end L2
namespace Bk
open PySem L2 bB
end Bk
namespace Bk
open PySem L2 bB
theorem Fm (ns:List Cs) (k:Nat):gU (ns.map tx) none (some (k:Int))=(ns.take k).map tx:=by
 unfold gU
 have e1:HT.cW (ns.map tx).length 0 none=0:=rfl
 have e2:HT.cW (ns.map tx).length (ns.map tx).length (some (k:Int))=min k (ns.map tx).length:=HT.zR _ _ k
 rw [e1,e2,Yz,Nat.sub_zero,← List.map_take,Lm9]
 by_cases h:k≤ns.length
 ·rw [Nat.min_eq_left h]
 ·rw [Nat.min_eq_right (by omega),XA (Wz _),XA (by omega)]
end Bk
namespace Bk
open PySem L2 bB
theorem Dx:∀(ns:List Cs) {acc:List Cs} (x:Cs),x∈kn acc ns↔x∈acc∨(x∈ns∧great x=true)
 | [],acc,x=>by simp [kn]
 | n::ns,acc,x=>by
  show x∈kn (M4 acc n) ns↔_
  rw [Dx ns,WS]
  have e:x∈M4 acc n↔x∈acc∨(x=n∧great x=true):=by
   unfold M4
   split
   ·rename_i g
    split
    ·rename_i hm
     exact⟨.inl,fun z=>z.elim id fun⟨e,_⟩=>e ▸ hm⟩
    ·rw [WU,Wy]
     exact⟨fun z=>z.elim .inl fun e=>.inr ⟨e,e ▸ g⟩,fun z=>z.elim .inl fun e=>.inr e.1⟩
   ·rename_i g
    exact⟨.inl,fun z=>z.elim id fun⟨e,g'⟩=>absurd (e ▸ g') g⟩
  rw [e]
  constructor
  ·rintro((h|⟨h,g⟩)|⟨h,g⟩)
   ·exact .inl h
   ·exact .inr ⟨.inl h,g⟩
   ·exact .inr ⟨.inr h,g⟩
  ·rintro(h|⟨h|h,g⟩)
   ·exact .inl (.inl h)
   ·exact .inl (.inr ⟨h,g⟩)
   ·exact .inr ⟨h,g⟩
end Bk
namespace Bk
open PySem L2 bB
end Bk
namespace Bk
open PySem L2 bB
end Bk
namespace Bk
open PySem L2 bB
end Bk
namespace Bk
open PySem L2 bB
theorem xm (cur:Cs) (x y:List Cs):shut cur (x++y)=shut cur x++y:=by
 unfold shut
 split <;> rfl
def Fn (c:Nat) (ts:List Cs):List Cs:=if c=32 then ts else [c]::ts
theorem mT {c:Nat} (hc:aG c=false) (r:Cs):∀(a cur:Cs),a6 (a++c::r) cur=a6 a cur++Fn c (toks r)
 | [],cur=>by
  show(if aG c=true then a6 r (cur++[c]) else shut cur (if c=32 then a6 r [] else [c]::a6 r []))=shut cur []++Fn c (toks r)
  rw [hc,if_neg WE,← xm,YO]
  rfl
 | d::a,cur=>by
  show(if aG d=true then a6 (a++c::r) (cur++[d]) else shut cur (if d=32 then a6 (a++c::r) [] else [d]::a6 (a++c::r) []))=(if aG d=true then a6 a (cur++[d]) else shut cur (if d=32 then a6 a [] else [d]::a6 a []))++_
  rw [mT hc r a (cur++[d]),mT hc r a []]
  by_cases hd:aG d=true
  ·rw [if_pos hd,if_pos hd]
  ·rw [if_neg hd,if_neg hd,← xm]
   by_cases h2:d=32
   ·rw [if_pos h2,if_pos h2]
   ·rw [if_neg h2,if_neg h2,ZP]
theorem xo {c:Nat} (hc:aG c=false) (a r:Cs):toks (a++c::r)=toks a++Fn c (toks r):=mT hc r a []
def Ap (sep:Cs):List Cs→Cs
 | []=>[]
 | [a]=>a
 | a::r=>a++(sep++Ap sep r)
theorem IC:∀ls,Dw ls=Ap [44,32] ls
 | []=>rfl
 | [a]=>rfl
 | a::b::r=>by
  show a++44::32::Dw (b::r)=a++([44,32]++Ap [44,32] (b::r))
  rw [IC (b::r)]
  rfl
def K7 (k:Lk):Cs:=k.l++32::((if k.same=true then bI else d7)++32::k.r)
def K8 (p:Cs × Cs):Cs:=p.1++32::61::32::p.2
def xq (w:Cs) (m:List Cs):List Cs:=if m=[] then [] else [w++32::Dw m]
def ID (r:Rl):List Cs:=xq eB (r.take.map An)++(xq bW (r.keep.map An)++(xq eC (r.cz.map K7)++(xq iF (r.put.map An)++xq pU (r.tell.map K8))))
def K9 (r:Rl):Cs:=aY++32::(r.title++58::32::Ap [59,32] (ID r))
def ON (n:Nat) (fs:List Fc):List Pr:=if fs=[] then [] else [⟨n,toks (Dw (fs.map An)),.fs fs⟩]
def T5 (ks:List Lk):List Pr:=if ks=[] then [] else [⟨2,glue [44] (ks.map GC),.lk ks⟩]
def T6 (ps:List (Cs × Cs)):List Pr:=if ps=[] then [] else [⟨4,glue [44] (ps.map GD),.pr ps⟩]
def La (r:Rl):List Pr:=ON 0 r.take++(ON 1 r.keep++(T5 r.cz++(ON 3 r.put++T6 r.tell)))
structure OO (r:Rl):Prop where
 t:aH r.title=true
 f:∀g∈r.take++(r.keep++r.put),FG g
 l:∀k∈r.cz,aR k.l=true∧aR k.r=true
 p:∀p∈r.tell,aR p.1=true∧aR p.2=true
 hd:r.take++r.keep≠[]
 few:r.take.length≤20∧r.keep.length≤20∧r.cz.length≤20∧r.put.length≤20∧r.tell.length≤20
end Bk
namespace Bk
open PySem L2 bB
theorem IE {p:Cs} (h:aH p=true):aR p=true:=by
 unfold aH at h
 rw [WG] at h
 exact h.1
structure M5 (p q:Cs):Prop where
 t:toks q=toks p
 ok:p.all (gP cj)=true→q.all (gP cj)=true
 n:q.length≤p.length
theorem M5.trans {p q r:Cs} (a:M5 p q) (b:M5 q r):M5 p r:=⟨b.t.trans a.t,fun h=>b.ok (a.ok h),W5 b.n a.n⟩
end Bk
namespace L2
open PySem PySem.Spec PyProof.Rows
section
variable {X:Cx} {k:Nat} {m:Str} {pos apos:Pos} {o:Expr} {ta:TE}
end
end L2
namespace Bk
open PySem L2 bB
end Bk
namespace Bk
open PySem L2 bB
structure KG (ks:List Kd):Prop where
 len:ks.length=4
 nd:(ks.map (·.n)).Nodup
 ok:∀k∈ks,aH k.n=true∧k.c≤4
 yes:∃k∈ks,k.l=true
 no:∃k∈ks,k.l=false
def OP (ks:List Kd) (ns:List Cs) (f:Fc):Prop:=(∃k∈ks,f.k=k.n∧f.as.length=k.c)∧∀a∈f.as,a∈ns
end Bk
namespace Bk
open PySem L2 bB
def T8 (k:Kd):Bool:=!k.l
structure Rr (ks:List Kd) (os ws:List Cs) (r:Rl):Prop where
 take:∀f∈r.take,OP (ks.filter T8) (os++ws) f
 keep:∀f∈r.keep,OP ks (os++ws) f
 put:∀f∈r.put,OP (if r.take=[] then ks.filter (·.l) else ks) (opens (r.take++r.keep)++ws) f
 cz:∀k∈r.cz,k.l∈opens (r.take++r.keep)++ws∧k.r∈opens (r.take++r.keep)++ws
 tell:∀p∈r.tell,p.1∈opens (r.take++r.keep)++ws∧p.2∈opens (r.take++r.keep)++ws
 hd:1≤r.take.length+r.keep.length
 few:r.take.length≤4∧r.keep.length≤4∧r.cz.length≤4∧r.put.length≤4∧r.tell.length≤4
end Bk
namespace Bk
open PySem L2 bB
end Bk
namespace Bk
open PySem L2 bB
end Bk
namespace Bk
open PySem L2 bB
end Bk
namespace Bk
open PySem L2 bB
end Bk
namespace Bk
open PySem L2 bB
theorem Dy {fs:List Fc} {a:Cs} (hk:kn [] (fs.flatMap (·.as))=opens fs) (h:a∈opens fs):(∃f∈fs,a∈f.as)∧great a=true:=by
 rw [← hk] at h
 rcases(Dx _ a).mp h with h|⟨h,g⟩
 ·cases h
 ·obtain⟨f,hf,h⟩:=List.mem_flatMap.mp h
  exact⟨⟨f,hf,h⟩,g⟩
section
variable {ks:List Kd} {os ws:List Cs} {r:Rl} {t:Cs}
theorem Rr.names (hG:KG ks) (hN:∀n∈os++ws,aR n=true) (d:Rr ks os ws r) (hk:kn [] ((r.take++r.keep).flatMap (·.as))=opens (r.take++r.keep)):∀n∈opens (r.take++r.keep)++ws,aR n=true:=fun n hn=>by
 rcases WU.mp hn with h|h
 ·obtain⟨⟨f,hf,ha⟩,_⟩:=Dy hk h
  rcases WU.mp hf with z|z
  ·exact hN n ((d.take f z).2 n ha)
  ·exact hN n ((d.keep f z).2 n ha)
 ·exact hN n (WD _ h)
end
end Bk
namespace Bk
open PySem L2 bB
end Bk
namespace Bk
open PySem L2 bB
end Bk
namespace Bk
open PySem L2 bB
end Bk
namespace L2
open PySem PySem.Spec PyProof.Rows
end L2
namespace Bk
open PySem L2 bB
theorem OO.facts {r:Rl} (h:OO r):∀f∈r.take++r.keep++r.put,FG f:=fun f hf=>h.f f (by
 simp only [WU] at hf ⊢
 rcases hf with(hf|hf)|hf
 ·exact .inl hf
 ·exact .inr (.inl hf)
 ·exact .inr (.inr hf))
end Bk
namespace L2
open PySem
end L2
namespace Bk
open PySem L2 bB
end Bk
namespace L2
open PySem PySem.Spec PyProof.Rows
section
variable {X:Cx} {st:Stmt} {rest:List Stmt} {t u:TS} {pos:Pos}
end
end L2
namespace L2
open PySem PySem.Spec PyProof.Rows
end L2
namespace L2
open PySem PySem.Spec PyProof.Rows
section
variable {X:Cx} {k:Nat} {ps:List Str} {sp:Sp} {x:Str} {p pos:Pos} {e:Expr} {es:List Expr} {t:TA} {f:WA} {fd:Xk} {ds:List Wr} {km:List V} {CX:A1} {E:XK}
end
end L2
namespace L2
open PySem PySem.Spec PyProof.Rows
section
variable {X:Cx} {k:Nat} {ps:List Str} {sp:Sp} {x:Str} {p pos:Pos} {e:Expr} {es:List Expr} {t:TA} {te:TE}
end
end L2
namespace L2
open PySem PySem.Spec PyProof.Rows
section
variable {X:Cx} {e:Expr} {es:List Expr} {te:TE} {t:TA} {pos:Pos}
end
end L2
namespace Bk
open PySem L2 bB
inductive Mt where
 | k (k:Kd)
 | r (r:Rl)
def Mt.txt:Mt→Cs
 | .k x=>Dr x
 | .r x=>K9 x
def Mt.it:Mt→It
 | .k x=>.kind x
 | .r x=>.rule x.title (La x)
def Mt.Ok:Mt→Prop
 | .k x=>aH x.n=true∧x.c≤4
 | .r x=>OO x
def V4 (xs:List Mt) (ls:List Cs):Prop:=∃its:List (Cs × It),its.map (·.2)=xs.map Mt.it∧ls.filter told=its.map (·.1)∧(∀x∈its,x.1.all (gP cj)=true∧toks x.1=x.2.ps)∧∀l∈ls,10∉l
end Bk
namespace Bk
open PySem L2 bB
end Bk
namespace L2
open PySem PySem.Spec PyProof.Rows
section
variable {X:Cx} {pins:List (WA × Obj)} {σ:St} {H:Hp} {s:Ws}
end
end L2
namespace L2
open PySem
end L2
namespace L2
open PySem PySem.Spec PyProof.Rows
end L2
namespace L2
open PySem PySem.Spec PyProof.Rows
def Rt (h:Heap) (b:Bool) (i l:WA) (k:Nat):Prop:=match b with|true=>h.IsTupleIter i l k|false=>h.IsListIter i l k
theorem Rt.there {h:Heap} {b:Bool} {i l:WA} {k:Nat} (x:Rt h b i l k):∃o,h.get? i=some o:=by
 cases b with
 | false=>obtain⟨o,ho,r⟩:=x;exact⟨o,ho⟩
 | true=>obtain⟨o,ho,r⟩:=x;exact⟨o,ho⟩
section
variable {prog:WM} {w:Xj} {A:Xf} {E:Wr→Ws→Prop} {s:Ws}
end
section
variable {prog:WM} {w:Xj} {A:Xf} {E:Wr→Ws→Prop} {s:Ws}
end
end L2
namespace L2
open PySem PySem.Spec PyProof.Rows
section
variable {X:Cx} {k:Nat} {m:Str} {pos apos:Pos} {o e:Expr} {es:List Expr} {ta:TE} {t:TA}
end
end L2
namespace Bk
open PySem L2 bB
def Ru (n:Int) (ns:List Cs):Prop:=n.natAbs.log2<1920∧ns.length≤100∧∀x∈ns,TX x
end Bk
namespace L2
open PySem PySem.Spec PyProof.Rows
section
variable {X:Cx}
end
end L2
namespace Bk
open PySem L2 bB
end Bk
namespace Bk
open PySem L2 bB
def stepT (n:Int) (ns:List Cs):List Tr:=[.int n,.tup ((ns.map S).map .str)]
end Bk
namespace Bk
open PySem L2 bB
end Bk
namespace L2
open PySem PySem.Spec PyProof.Rows
section
variable {X:Cx} {pins:List (WA × Obj)} {σ:St} {H:Hp} {s:Ws}
end
section
variable {X:Cx}
end
end L2
namespace L2
open PySem PySem.Spec PyProof.Rows
section
variable {X:Cx} {x:WA} {oe:Obj} {cls:Wr}
end
end L2
namespace Bk
open PySem L2 bB
end Bk
namespace L2
open PySem PySem.Spec PyProof.Rows
section
variable {X:Cx} {es:List Expr} {pos:Pos} {t:TA}
end
end L2
namespace Bk
open PySem L2 bB
end Bk
namespace L2
open PySem PySem.Spec PyProof.Rows
section
variable {M:Model} {A:Xf} {E:Wr→Ws→Prop} {s:Ws}
def uB (B:Heap) (l:List Env) (e:WA) (cls a0:Wr) (h:Heap):Prop:=B.StaysIn h∧B.get? e=none∧h.FunFrames B l∧∃fl,h.TracedAtW B e cls a0 fl
theorem uB.of {B h:Heap} {l:List Env} {e:WA} {cls a0:Wr} (x:Zp B l e cls a0 h):uB B l e cls a0 h:=⟨x.1,x.2.1,x.2.2.1,_,x.2.2.2.at⟩
theorem Aq {B h:Heap} {l:List Env} {e T:WA} {cls a0 v:Wr} {oe oT:Obj} {vs ts:Array Wr} (st:B.StaysIn h) (ff:h.FunFrames B l) (ge:h.get? e=some oe) (gc:oe.cls=cls∧vs[0]?=some a0) (gd:oe.data=.fields vs) (g1:vs[1]?=some (.ref T))
  (nT:B.get? T=none) (Fo:T≠e) (gT:h.get? T=some oT) (dT:oT.data=.fields ts) (hs:3<ts.size) :
  B.StaysIn (h.update T (YS (·.setIfInBounds 3 v)))∧(h.update T (YS (·.setIfInBounds 3 v))).FunFrames B l∧(h.update T (YS (·.setIfInBounds 3 v))).TracedAtW B e cls a0 v ∧
   (h.update T (YS (·.setIfInBounds 3 v))).get? e=some oe∧h.UpToSlots (h.update T (YS (·.setIfInBounds 3 v))):=by
 have ot:∀b,b≠T→(h.update T (YS (·.setIfInBounds 3 v))).get? b=h.get? b:=fun b hb=>ZT _ _ (Xl hb)
 have nr:∀b o,h.get? b=some o→(∀ws,o.data≠.fields ws)→b≠T:=fun b o hb hn q=>by
  rw [q,gT] at hb
  cases hb
  exact hn ts dT
 have ee:=(ot e (Xl Fo)).trans ge
 refine⟨fun b o q=>(ot b fun z=>by rw [z,nT] at q;cases q).trans (st b o q),ff.of_keeps fun b o q hn=>⟨o,(ot b (nr b o q hn)).trans q,rfl⟩,?_,ee,fun b o q hn=>⟨o.slots,(ot b (nr b o q hn)).trans q⟩⟩
 exact⟨oe,vs,T,_,_,ee,gc,gd,g1,nT,Fo,Heap.get?_update_self _ gT (Obj.isFreed_of_fields (Obj.data_mapFields dT _)),Obj.data_mapFields dT _,by simp [hs]⟩
theorem yQ {B:Heap} {l:List Env} {e:WA} {cls a0:Wr} {fr:Option WA} {Q:Unit→Ws→Prop} (x:uB B l e cls a0 s.heap) (hQ:∀h',uB B l e cls a0 h'→s.heap.UpToSlots h'→Q () { s with heap:=h' }):W7 M A (setFlight (.ref e) fr) Q E s:=by
 obtain⟨st,nb,ff,fl,oe,vs,T,oT,ts,ge,gc,gd,g1,nT,Fo,gT,dT,g3⟩:=x
 have hs:=(X5.mp g3).1
 obtain⟨z1,z2,z3,_,z5⟩:=Aq (v:=fr.elim Zv fun f=>rawInt f) st ff ge gc gd g1 nT Fo gT dT hs
 unfold setFlight
 refine Wu (wpAny_field ge gd g1 ?_)
 rw [if_pos (by simp)]
 exact wpAny_setField gT dT hs (hQ _ ⟨z1,nb,z2,_,z3⟩ z5)
theorem xr {B:Heap} {env:Env} {outer:List Env} {L e:WA} {cls a0:Wr} {Q:Unit→Ws→Prop} (mv:A.frames=some (env::outer)) (hf:env.frame=some L) (x:uB B (env::outer) e cls a0 s.heap)
  (hQ:∀h',Heap.HeldW B (env::outer) e cls a0 L h'→s.heap.UpToSlots h'→Q () { s with heap:=h' }):W7 M A (noteFrame (.ref e) env) Q E s:=by
 obtain⟨st,nb,ff,fl,oe,vs,T,oT,ts,ge,gc,gd,g1,nT,Fo,gT,dT,g3⟩:=x
 by_cases q:fl=rawInt L
 ·subst q
  have t:s.heap.TracedAtW B e cls a0 (rawInt L):=⟨oe,vs,T,oT,ts,ge,gc,gd,g1,nT,Fo,gT,dT,g3⟩
  exact wpAny_noteFrame_againW hf t (hQ s.heap ⟨st,nb,ff,t⟩ (.refl _))
 have hs:=(X5.mp g3).1
 obtain⟨z1,z2,_,z4,z5⟩:=Aq (v:=Zv) st ff ge gc gd g1 nT Fo gT dT hs
 unfold noteFrame
 simp only [hf]
 refine Wu (wpAny_field ge gd g1 ?_)
 rw [if_pos (by simp)]
 refine Wu (wpAny_field gT dT g3 ?_)
 rw [if_neg (by simpa using q)]
 refine Wu (wpAny_setField gT dT hs ?_)
 refine wpAny_entryW mv z2 hf z4 z1 nb gd (X5.mp g1).1 gc.2 fun h' y=>?_
 rw [gc.1] at y
 exact hQ h' ⟨y.1,nb,y.2.1,y.2.2.1⟩ (z5.trans y.2.2.2)
theorem Dz {B h:Heap} {l:List Env} {e L:WA} {cls a0:Wr} (x:Heap.HeldW B l e cls a0 L h):uB B l e cls a0 h:=⟨x.1,x.2.1,x.2.2.1,_,x.2.2.2⟩
theorem qb {B h h':Heap} {C:WA} (sb:Zm C h h'):∀{l:List Env},h.FunFrames B l→C∉cR l→h'.FunFrames B l
 | [],_,_=>trivial
 | env::r,⟨k,⟨L,o,hf,n,g,d⟩,hr⟩,hC=>by
  rw [fo env r hf] at hC
  exact⟨k,⟨L,o,hf,n,(sb.2 L fun z=>hC (by rw [z];exact .head _)).trans g,d⟩,qb sb hr fun z=>hC (.tail _ z)⟩
end
theorem ro {prog:WM} {w:Xj} {A:Xf} {R:Result→Ws→Prop} {s:Ws} {elt target iter:Expr} {ifs:List Expr} {scope:Scope} {pos:Pos} {it acc:Wr} {env:Env} (I:Nat→Ws→Prop)
  (turn:∀n s,I n s→W7 (model prog w) A (pyNext it) (fun r s₁=>match r with
   | none=>R (.ok .next) s₁
   | some v=>W7 (model prog w) A (letOwnedTupleGo target it v) (fun _ Ks=>W7 (model prog w) A (assign target env v) (fun _ s₂ =>
     W7 (model prog w) A (forIn ifs true fun c r=>if r=true then do let ok ← isTrue c env (eval c env);pure (X3 ok) else pure (X3 r)) (fun ok s₃ =>
      if ok=true then W7 (model prog w) A (eval elt env) (fun x s₄ =>
       W7 (model prog w) A (call (.builtin "list.append") [acc,x]) (fun _ s₅=>∃m,m<n∧I m s₅) (fun _ _=>False) s₄) (notedBy (model prog w) A env fun e s'=>R (.error e) s') s₃
      else ∃m,m<n∧I m s₃) (fun _ _=>False) s₂) (fun _ _=>False) Ks) (fun _ _=>False) s₁) (fun _ _=>False) s)
  (n:Nat) (h:I n s):codeAny (model prog w) A (.compLoop (.ListComp elt [⟨target,iter,ifs,0⟩] scope pos) 0 it acc env) R s:=by
 refine codeAny_loop rfl I (fun n s hI=>?_) n h
 show W7 _ A ((compTurn (.ListComp elt [⟨target,iter,ifs,0⟩] scope pos) 0 it acc env).onRaise (fun x=>do noteFrame x env;theTreesLotGoes x)) _ _ s
 refine wpAny_noted ?_
 rw [compTurn_list]
 refine Wu (wpAny_standAt (Wu (wpAny_mono (turn n s hI) (fun r s₁ h₁=>?_) fun _ _ h'=>h'.elim)))
 cases r with
 | none=>exact WI h₁
 | some v =>
  refine Wu (wpAny_mono h₁ (fun _ Ks Of=>?_) fun _ _ h'=>h'.elim)
  refine Wu (wpAny_mono Of (fun _ s₂ h₂=>Wu (wpAny_mono h₂ (fun ok s₃ h₃=>?_) fun _ _ h'=>h'.elim)) fun _ _ h'=>h'.elim)
  cases ok with
  | false=>exact WI ⟨rfl,h₃⟩
  | true =>
   exact Wu (Wu (wpAny_mono h₃ (fun x s₄ h₄=>Wu (wpAny_mono h₄ (fun _ s₅ h₅=>WI (WI ⟨rfl,h₅⟩)) fun _ _ h'=>h'.elim)) fun _ _ h'=>h'))
section
variable {X:Cx}
theorem yR {x:Str} {px pos p:Pos} {iter elt:Expr} {ifs:List Expr} {scope:Scope} {wi:TI} {tt:TT} {te:TE} {aQ:List Nat} {QQ:Wr→Ws→Prop} {R:Wr→St→Hp→Prop}
  (hc:X.calm=true) (ho:kq X.env.scope scope x (cO X x aQ)=true) (hi:PI X (.Name x px) iter wi)
  (ht:∀cl C s₀ H₀ ex,ES (dv X scope cl (cO X x aQ) C s₀ H₀ ex) ifs tt) (he:∀cl C s₀ H₀ ex,PE (eS (dv X scope cl (cO X x aQ) C s₀ H₀ ex) [] R) elt te)
  (hs:∀x,foldedSetIterable iter X.env x=pure x) {pins:List (WA × Obj)} {s:Ws} {σ:St} {H:Hp} {Q:VK} (I:Inv X pins σ H s) (h:wB wi tt te aQ σ H Q)
  (T9:∀(di:List (WA × Obj)) (σ':St) (H1 H':Hp) (s1 s':Ws) (C x:WA) (cls:Wr) (σc:St) (m:Str→Option Wr),Inv X di σ' H1 s1→Jv X.prog X.w X.stack H1 s1 x cls H' s'→R cls σc H'→X.s₀.heap.objs.size≤C→C∉cR X.stack→H' C=none→s'.heap.Ns C m→notedBy (model X.prog X.w) X.A X.env (fun e s2=>compPost (model X.prog X.w) X.A X.xe none QQ (.ref 0) C (.error e) s2) (.ref x) s')
  (fin:∀(D C:WA) (H':Hp) (s':Ws) (m:Str→Option Wr),Inv X pins σ H' s'→Q (.ref D) H'→s'.heap.Ns C m→mB X pins H' C→compPost (model X.prog X.w) X.A X.xe none QQ (.ref D) C (.ok .next) s') :
  W7 (model X.prog X.w) X.A (comprehension (.ListComp elt [⟨.Name x px,iter,ifs,0⟩] scope pos) scope X.env p (newList []) false (eval iter X.env) none) QQ X.xe s:=by
 have ok:=sJ ho
 have pF:∀z∈scope.names,z.2=.free→(X.env.cells.lookup z.1).isSome=true:=fun z hz mv=>by
  obtain⟨c,e⟩:=I.ok.has z.1 (by
   rcases ok.frees z hz mv with q|q
   ·exact .inl q
   ·exact .inr q)
  rw [e];rfl
 refine wpAny_comprehension_free (cl:=aZ X.env scope.names []) (use:=none) rfl hs (pD pF) ok.kind ok.locs (thn (hi pins s σ H _ I h) fun v s1 h1=>thn h1 fun MR s2 h2=>?_)
 obtain⟨it,fp,tn,J,H2,e,I2,T,Hk,f2,rd⟩:=h2
 subst e
 refine wpAny_newObj_type (wpAny_newFunctionEnv ok.yB (by intro y hy;simp at hy) (fun h₁ yC yD=>?_) ok.kind)
 dsimp only at yC yD ⊢
 have uf:H2 s2.heap.objs.size=none:=I2.hok.fresh (Wz _)
 obtain⟨W,⟨m0,w0⟩,turn⟩:=rd s2.heap.objs.size uf
 have CJ:∀b∈fp,b<s2.heap.objs.size:=fun b hb=>by
  obtain⟨o,e,_⟩:=T.obj 0 _ Hk b hb
  exact WH e
 have hsz:(s2.heap.push { cls:=.type "list",dict:=none,data:=.seq ([]:List Wr).toArray }).objs.size=s2.heap.objs.size+1:=Zs ..
 have I3:Inv X pins σ (upd H2 s2.heap.objs.size (.lst [])) { s2 with heap:=s2.heap.push { cls:=.type "list",dict:=none,data:=.seq ([]:List Wr).toArray } } :=
  I2.laid (t':=s2.toks) (fun b u e=>Wx _ e) (Wz _) ⟨by simp,[],0,.nil,Xb _ rfl⟩
 have Es:tn 0 (s2.heap.push { cls:=.type "list",dict:=none,data:=.seq ([]:List Wr).toArray }):=T.keep _ _ _ Hk fun b _ o e=>Wx _ e
 generalize Rf:s2.heap.push { cls:=.type "list",dict:=none,data:=.seq ([]:List Wr).toArray }=h3 at yC yD hsz I3 Es ⊢
 generalize Og:upd H2 s2.heap.objs.size (.lst [])=H3 at I3 w0
 have CK:∀b∈fp,b<h3.objs.size:=fun b hb=>by rw [hsz];exact Nat.lt_succ_of_lt (CJ b hb)
 have f3:∀b∈fp,mB X pins H3 b:=fun b hb=>⟨by rw [← Og,aw (W2 (CJ b hb))];exact(f2 b hb).1,(f2 b hb).2⟩
 have keep:∀b o,h3.get? b=some o→h₁.get? b=some o:=fun b o e=>yD.extBut b o (W2 (WH e)) (Wx _ e)
 have I4:=pE (s3:={ s2 with heap:=h3 }) (tk:=s2.toks+([]:List (Str × Wr)).length) ok I3 f3 CK yC keep
 have Kt:tn 0 h₁:=T.keep _ _ _ Es fun b _ o e=>keep b o e
 generalize iO:dv X scope (aZ X.env scope.names []) (cO X x aQ) ({ s2 with heap:=h3 }:Ws).heap.objs.size { s2 with heap:=h3 } H3 fp=X' at I4
 have eA:X'.A=X.A:=by rw [← iO] <;> rfl
 have eP:X'.prog=X.prog:=by rw [← iO] <;> rfl
 have ew:X'.w=X.w:=by rw [← iO] <;> rfl
 have eK:X'.K=X.K:=by rw [← iO] <;> rfl
 have ee:X'.env=compEnvC scope (aZ X.env scope.names []) h3.objs.size X.env:=by rw [← iO] <;> rfl
 have ex:X'.xe=fun _ _=>False:=by rw [← iO] <;> rfl
 have eN:X'.N=cO X x aQ:=by rw [← iO] <;> rfl
 have ec:X'.calm=true:=by rw [← iO];exact hc
 have Oh:X'.fs=cR X.stack:=by rw [← iO] <;> rfl
 have hT':ES X' ifs tt:=by rw [← iO];exact ht _ _ _ _ _
 have hE':PE (eS X' [] R) elt te:=by rw [← iO];exact he _ _ _ _ _
 have leave:∀{σ':St} {H':Hp} {s':Ws},Inv X' [] σ' H' s'→Q (.ref s2.heap.objs.size) H'→compPost (model X.prog X.w) X.A X.xe none QQ (.ref s2.heap.objs.size) h3.objs.size (.ok .next) s':=fun {σ' H' s'} J q=>by
  have un:Un (cR X.stack) fp H3 H' h3 s'.heap:=by have z:=J.base;rw [← iO] at z;exact z
  have A3:s'.os=s2.os:=by have z:=J.os;rw [← iO] at z;exact z
  have hk:gO X.prog X.w H' s'.heap:=by have z:=J.hok;rw [eP,ew] at z;exact z
  have Jx:=I3.Cn (s':=s') (ch:=fp) A3 un hk J.bare fun b hb=>⟨(f3 b hb).2.2.2.1,(f3 b hb).2.1,(f3 b hb).2.2.2.2.1,(f3 b hb).2.2.2.2.2⟩
  obtain⟨m,hn,_⟩:=J.loc
  have hn':s'.heap.Ns h3.objs.size m:=by rw [ee] at hn;exact hn
  have mv:H' h3.objs.size=none:=by have z:=J.free;rw [ee] at z;exact z
  exact fin _ _ H' s' m Jx q hn' (I3.AW (Wz _) mv)
 have pz:∀{H':Hp},(∀b∈fp,H' b=none)→∀b∈fp,mB X' [] H' b:=fun {H'} hn b hb=>by
  refine⟨hn b hb,?_,?_,.inl ?_,fun y c e=>?_,fun p hp=>?_⟩
  ·rw [ee];exact W2 (CK b hb)
  ·rw [Oh]
   intro z
   rcases WS.mp (I3.pq b z) with z|z
   ·exact(f3 b hb).2.1 z
   ·exact(f3 b hb).2.2.1 z
  ·rw [← iO];exact hb
  ·have e':(aZ X.env scope.names []).lookup y=some c:=by rw [ee] at e;exact e
   exact(f3 b hb).2.2.2.2.1 y c (iV pF (fun _ _ q=>by simp at q) e')
  ·rw [← iO] at hp
   exact absurd (show p∈([]:List (WA × Obj)) from hp) (by simp)
 have loop:∀s₃:Ws,s₃={ s2 with heap:=h₁,toks:=s2.toks+([]:List (Str × Wr)).length } →
   codeAny (model X.prog X.w) X.A (.compLoop (.ListComp elt [⟨.Name x px,iter,ifs,0⟩] scope pos) 0 (.ref it) (.ref s2.heap.objs.size) (compEnvC scope (aZ X.env scope.names []) h3.objs.size X.env))
    (compPost (model X.prog X.w) X.A X.xe none QQ (.ref s2.heap.objs.size) h3.objs.size) s₃:=by
  rintro s₃ rfl
  refine ro (fun n s'=>∃i o H' ys,Inv X' [] (bM σ o aQ) H' s'∧tn i s'.heap∧(∀b∈fp,H' b=none)∧W i n ys H') ?_ m0 ⟨0,none,H3,[],I4,Kt,fun b hb=>(f3 b hb).1,w0⟩
  rintro n s' ⟨i,o,H',ys,J,wm,Ku,w'⟩
  obtain⟨Tc,hlen,alt⟩:=turn i n ys H' w'
  rcases alt with⟨stop,q⟩|⟨go,N,hN,step⟩
  ·have z:=T.done X' eP ew eK ec i [] s' _ H' (fun _ _=>False) J (pz Ku) wm stop
   rw [eA] at z
   refine thn z fun r s4 ⟨hr,J4⟩=>?_
   subst hr
   exact leave J4 q
  ·have z:=T.item X' eP ew eK ec i [] s' _ H' (fun _ _=>False) J (pz Ku) wm go
   rw [eA] at z
   refine thn z fun r s4 ⟨u,hr,h4⟩=>?_
   subst hr
   refine thn h4 fun _ s5 ⟨xv,H5,J5,r5,y5,Ct,Ka⟩=>?_
   have Oi:=J5.pinned (pz Ka) (T.obj _ _ Ct)
   have lx:(relabel scope X.env).names.lookup x=some .local:=lookup_relabel_local ok.Rb
   have hg:PG X' (.Name x px) (sy 0):=b8 (by rw [eN];exact ok.nd) (by rw [eN] <;> rfl) (by rw [ee];exact .inl lx) (by rw [ee];exact .inr lx)
   have zg:=hg _ s5 _ H5 xv u (fun σ6 H6=>σ6=bM σ (some xv) aQ∧H6=H5) Oi r5 ⟨rfl,rfl⟩
   rw [eP,ew,eA,ee,ex] at zg
   refine thn zg fun _ s6 ⟨σ6,H6,J6,q6⟩=>?_
   obtain⟨e6,Oj⟩:=q6
   subst e6 Oj
   have zt:=hT' _ s6 _ _ _ J6 (step xv _ y5)
   rw [eP,ew,eA,ee,ex] at zt
   refine thn zt fun b s7 ⟨H7,J7,q7⟩=>?_
   have again:∀{H8:Hp} {s8:Ws} {EU:List V},Inv X' ([]++gS fp s5.heap) (bM σ (some xv) aQ) H8 s8→N EU H8→∃m,m<n∧∃i o H' ys,Inv X' [] (bM σ o aQ) H' s8∧tn i s8.heap∧(∀b∈fp,H' b=none)∧W i m ys H':=fun {H8 s8 EU} J8 n8=>by
    obtain⟨m',hm,w8⟩:=hN EU H8 n8
    refine⟨m',hm,i+1,some xv,H8,EU,J8.iU,T.keep _ _ _ Ct fun b hb o e=>(J8.pin (b,o) (WD _ (WD _ (dH hb e)))).1,fun b hb=>?_,w8⟩
    obtain⟨o,e,d⟩:=T.obj _ _ Ct b hb
    exact(J8.pin (b,o) (WD _ (WD _ (dH hb e)))).2.1
   cases b with
   | false=>exact again J7 q7
   | true =>
    have Ua:Inv (eS X' [] R) ([]++gS fp s5.heap) (bM σ (some xv) aQ) H7 s7:=J7.cx (X:=X') rfl J7.ok.hd fun p q=>by rw [Xh] at q;exact q
    have ze:W7 (model X'.prog X'.w) X'.A (eval elt X'.env) (EP (eS X' [] R) ([]++gS fp s5.heap) (bM σ (some xv) aQ) fun y H3=>H3 s2.heap.objs.size=some (.lst ys)∧N (ys++[y]) (upd H3 s2.heap.objs.size (.lst (ys++[y])))) (eS X' [] R).xe s7:=hE' _ s7 _ H7 _ Ua q7
    rw [eP,ew,eA,ee] at ze
    refine wpAny_mono ze (fun yv s8 ⟨y,H8,Ub,r8,Ol,q8⟩=>?_) fun e s8 ⟨di,σ1,H1,s1,H9,xe,cls,J1,e1,F1,q1⟩=>?_
    case refine_2 =>
     subst e1
     have un:Un (cR X.stack) fp H3 H1 h3 s1.heap:=by have z:=J1.base;rw [← iO] at z;exact z
     have A3:s1.os=s2.os:=by have z:=J1.os;rw [← iO] at z;exact z
     have hk:gO X.prog X.w H1 s1.heap:=by have z:=J1.hok;rw [← iO] at z;exact z
     have Jx:=I3.Cn (s':=s1) (ch:=fp) A3 un hk J1.bare fun b hb=>⟨(f3 b hb).2.2.2.1,(f3 b hb).2.1,(f3 b hb).2.2.2.2.1,(f3 b hb).2.2.2.2.2⟩
     have F2:Jv X.prog X.w X.stack H1 s1 xe cls H9 s8:=by have z:=F1;rw [← iO] at z;exact z
     obtain⟨m,hn,_⟩:=J1.loc
     have hn':s1.heap.Ns h3.objs.size m:=by rw [← iO] at hn;exact hn
     have mv:H1 h3.objs.size=none:=by have z:=J1.free;rw [← iO] at z;exact z
     have Lb:h3.objs.size∉cR X.stack:=fun z=>by
      obtain⟨_,o,ho,_⟩:=I3.stack.mem z
      exact X6 _ (WH ho)
     obtain⟨o,es,ep,ho,hr⟩:=hn'
     obtain⟨B,a0,fl,_,kp,_⟩:=F2.ex
     have Uc:=fl.1 _ _ (kp _ o ho mv Lb)
     exact T9 pins σ H1 H9 s1 s8 h3.objs.size xe cls σ1 m Jx F2 q1 I3.sz Lb (F2.free _ o ho mv) ⟨o,es,ep,Uc,hr⟩
    have J8:Inv X' ([]++gS fp s5.heap) (bM σ (some xv) aQ) H8 s8:=Ub.cx (X:=eS X' [] R) (pn:=X'.pn) rfl J7.ok.hd fun p q=>by show p∈(X'.pn++[])++_;rw [Xh];exact q
    have za:=bz (X:=X') _ s8 _ H8 (.ref s2.heap.objs.size) [y] (.ref s2.heap.objs.size) [yv] (fun _ H9=>H9=upd H8 s2.heap.objs.size (.lst (ys++[y]))) J8 rfl (.cons r8 .nil) ⟨_,ys,y,rfl,rfl,Ol,hlen,rfl⟩
    rw [eP,ew,eA,ex] at za
    refine thn za fun _ s9 ⟨_,H9,J9,_,q9⟩=>?_
    subst q9
    exact again J9 q8
 exact codeAny_compStart_list (loop _ rfl) (T.self _ 0 _ _ _ Kt (loop _ rfl))
end
structure uC (P:WM) (w:Xj) (l outer:List Env) (H₀:Hp) (s₀:Ws) (x:WA) (cls:Wr) (H':Hp) (s':Ws):Prop where
 os:s'.os=s₀.os
 bare:AllBare s'.gens
 ex:∃(B:Heap) (a0:Wr),uB B l x cls a0 s'.heap∧gO P w H' B∧(∀b o,s₀.heap.get? b=some o→H₀ b=none→b∉cR outer→B.get? b=some o)∧(∀b o,s₀.heap.get? b=some o→b∉cR outer→∃o',B.get? b=some o')
 slot:∀b o,s₀.heap.get? b=some o→H₀ b=none→b∈cR outer→∃sl,s'.heap.get? b=some { o with slots:=sl }
 free:∀b o,s₀.heap.get? b=some o→H₀ b=none→H' b=none
 fi:∀b xs,H₀ b=some (.tup xs)→H' b=some (.tup xs)
 eV:∀b o u,H₀ b=some (.oR o u)→H' b=some (.oR o u)
 fj:∀b ps,H₀ b=some (.Ce ps)→∃more,H' b=some (.Ce (ps++more))
section
variable {P:WM} {w:Xj} {K:Wo} {mg:Str→Option Wr} {base:Heap} {N:List Str} {qual:Str} {scope:Scope} {f:WA} {cd:Wr} {A:Xf} {outer:List Env} {s₀:Ws} {H₀:Hp} {E:XK}
theorem uC.of {pins:List (WA × Obj)} {σ:St} {H H':Hp} {s s':Ws} {x:WA} {cls:Wr} (I:Inv (cQ P w K mg base N qual scope f cd A outer s₀ H₀ E) pins σ H s) (F:Jv P w (Cx.stack (cQ P w K mg base N qual scope f cd A outer s₀ H₀ E)) H s x cls H' s'):uC P w (Cx.stack (cQ P w K mg base N qual scope f cd A outer s₀ H₀ E)) outer H₀ s₀ x cls H' s':=by
 obtain⟨B,a0,fl,hok,kp,th⟩:=F.ex
 have st:cR (Cx.stack (cQ P w K mg base N qual scope f cd A outer s₀ H₀ E))=s₀.heap.objs.size::cR outer:=fo _ _ rfl
 have old:∀b o,s₀.heap.get? b=some o→b∉cR outer→b∉cR (Cx.stack (cQ P w K mg base N qual scope f cd A outer s₀ H₀ E)):=fun b o q hb hm=>by
  rw [st] at hm
  rcases WS.mp hm with z|z
  ·exact W2 (WH q) z
  ·exact hb z
 refine⟨F.os.trans I.os,F.bare,⟨B,a0,.of fl,hok,fun b o q n hb=>?_,fun b o q hb=>?_⟩,fun b o q n hb=>?_,fun b o q n=>?_,fun b xs q=>F.fi b xs (I.base.fi b xs q),fun b o u q=>F.eV b o u (I.base.eV b o u q),fun b ps q=>?_⟩
 ·exact kp b o (I.base.keep b o q n hb (by intro z;cases z)) (I.base.free b o q n (by intro z;cases z)) (old b o q hb)
 ·obtain⟨o',q'⟩:=I.base.there b o q (by intro z;cases z)
  exact th b o' q' (old b o q hb)
 ·obtain⟨sl,q1⟩:=I.base.slot b o q n hb (by intro z;cases z)
  obtain⟨HP,q2⟩:=F.slot b _ q1 (I.base.free b o q n (by intro z;cases z)) (by rw [st];exact Ww _ hb)
  exact⟨HP,q2⟩
 ·obtain⟨o',q'⟩:=I.base.there b o q (by intro z;cases z)
  exact F.free b o' q' (I.base.free b o q n (by intro z;cases z))
 ·obtain⟨m1,e1⟩:=I.base.fj b ps q
  obtain⟨m2,e2⟩:=F.fj b _ e1
  exact⟨m1++m2,by rw [e2,Yp]⟩
theorem uC.heap {l:List Env} {H':Hp} {s':Ws} {x:WA} {cls a0:Wr} {B h:Heap} (F:uC P w l outer H₀ s₀ x cls H' s') (sub:∀b∈cR outer,b∈cR l) (an:uB B l x cls a0 h) (hok:gO P w H' B) (kp:∀b o,s₀.heap.get? b=some o→H₀ b=none→b∉cR outer→B.get? b=some o)
  (th:∀b o,s₀.heap.get? b=some o→b∉cR outer→∃o',B.get? b=some o') (sm:∀b o,b∈cR l→s'.heap.get? b=some o→(∀vs,o.data≠.fields vs)→∃sl,h.get? b=some { o with slots:=sl }):uC P w l outer H₀ s₀ x cls H' { s' with heap:=h }:=by
 refine⟨F.os,F.bare,⟨B,a0,an,hok,kp,th⟩,fun b o q n hb=>?_,F.free,F.fi,F.eV,F.fj⟩
 obtain⟨sl,e1⟩:=F.slot b o q n hb
 obtain⟨_,_,a1,_⟩:=F.ex
 obtain⟨_,o2,e2,hd⟩:=a1.2.2.1.mem (sub b hb)
 rw [e1] at e2
 cases e2
 obtain⟨HP,e3⟩:=sm b _ (sub b hb) e1 hd
 exact⟨HP,e3⟩
theorem uC.out {H':Hp} {s':Ws} {x:WA} {cls:Wr} (mv:(Cx.A (cQ P w K mg base N qual scope f cd A outer s₀ H₀ E)).frames=some (Cx.stack (cQ P w K mg base N qual scope f cd A outer s₀ H₀ E))) (F:uC P w (Cx.stack (cQ P w K mg base N qual scope f cd A outer s₀ H₀ E)) outer H₀ s₀ x cls H' s') (hE:E cls none H'):(Cx.xe (cQ P w K mg base N qual scope f cd A outer s₀ H₀ E)) (.ref x) s':=by
 obtain⟨B,a0,an,hok,kp,th⟩:=F.ex
 have st:cR (Cx.stack (cQ P w K mg base N qual scope f cd A outer s₀ H₀ E))=s₀.heap.objs.size::cR outer:=fo _ _ rfl
 show W7 (model P w) (Cx.A (cQ P w K mg base N qual scope f cd A outer s₀ H₀ E)) (leaving (Cx.env (cQ P w K mg base N qual scope f cd A outer s₀ H₀ E)) (.ref x)) _ _ s'
 unfold leaving
 refine Wu (xr (outer:=outer) (L:=s₀.heap.objs.size) mv rfl an fun h1 hh EX=>?_)
 refine wpAny_landsW hh fun h2 fl pJ=>?_
 have KY:Zp B outer x cls a0 h2:=⟨fl.1,fl.2.1,fl.2.2.1.2.2,fl.2.2.2⟩
 refine⟨x,cls,H',rfl,⟨F.os,F.bare,⟨B,a0,KY,hok,kp,th⟩,fun b o q n hb=>?_,F.free,F.fi,F.eV,F.fj⟩,hE⟩
 obtain⟨sl,e1⟩:=F.slot b o q n hb
 obtain⟨_,o2,e2,hd⟩:=an.2.2.1.mem (show b∈cR (Cx.stack (cQ P w K mg base N qual scope f cd A outer s₀ H₀ E)) by rw [st];exact Ww _ hb)
 rw [e1] at e2
 cases e2
 obtain⟨HP,e3⟩:=(EX.trans pJ) b _ e1 hd
 exact⟨HP,e3⟩
theorem xt {x:Str} {px pos:Pos} {iter elt:Expr} {ifs:List Expr} {sc:Scope} {wi:TI} {tt:TT} {te:TE} (aQ:List Nat)
  (ho:kq (Cx.env (cQ P w K mg base N qual scope f cd A outer s₀ H₀ E)).scope sc x (cO (cQ P w K mg base N qual scope f cd A outer s₀ H₀ E) x aQ)=true) (hi:PI (cQ P w K mg base N qual scope f cd A outer s₀ H₀ E) (.Name x px) iter wi)
  (ht:∀cl C s1 H1 ex,ES (dv (cQ P w K mg base N qual scope f cd A outer s₀ H₀ E) sc cl (cO (cQ P w K mg base N qual scope f cd A outer s₀ H₀ E) x aQ) C s1 H1 ex) ifs tt) (he:∀cl C s1 H1 ex,PE (eS (dv (cQ P w K mg base N qual scope f cd A outer s₀ H₀ E) sc cl (cO (cQ P w K mg base N qual scope f cd A outer s₀ H₀ E) x aQ) C s1 H1 ex) [] fun cls _ H'=>E cls none H') elt te)
  (hs:∀x,foldedSetIterable iter (Cx.env (cQ P w K mg base N qual scope f cd A outer s₀ H₀ E)) x=pure x:=by intro _;rfl):PE (cQ P w K mg base N qual scope f cd A outer s₀ H₀ E) (.ListComp elt [⟨.Name x px,iter,ifs,0⟩] sc pos) (wB wi tt te aQ):=by
 intro pins s σ H Q I h
 have mv:(Cx.A (cQ P w K mg base N qual scope f cd A outer s₀ H₀ E)).frames=some (Cx.stack (cQ P w K mg base N qual scope f cd A outer s₀ H₀ E)):=I.ok.frames
 have st:cR (Cx.stack (cQ P w K mg base N qual scope f cd A outer s₀ H₀ E))=s₀.heap.objs.size::cR outer:=fo _ _ rfl
 have sub:∀b∈cR outer,b∈cR (Cx.stack (cQ P w K mg base N qual scope f cd A outer s₀ H₀ E)):=fun b hb=>by rw [st];exact Ww _ hb
 rw [eval_ListComp]
 refine yR rfl ho hi ht he hs I h (fun di σ' H1 H' s1 s' C x cls σc m J F hE hC Lb OQ hn=>?_) fun D C H' s' m J q hn hf=>?_
 ·have FO:=uC.of J F
  obtain⟨B,a0,an,hok,kp,th⟩:=FO.ex
  refine xr (outer:=outer) (L:=s₀.heap.objs.size) mv rfl an fun h1 hh EX=>?_
  refine⟨m,EX.ns hn,fun h2 sb OR _=>?_⟩
  have Ud:=FO.heap sub (Dz hh) hok kp th fun b o _ e hd=>EX b o e hd
  have sB:(Xr B [C]).StaysIn B:=fun b o q=>Zl _ q
  have gB:∀b o,b≠C→B.get? b=some o→(Xr B [C]).get? b=some o:=fun b o hb q=>Y8 _ q fun z=>hb (Wy.mp z)
  have nC:(Xr B [C]).get? C=none:=aae _ (.head _)
  obtain⟨oC,es,ep,gC,dC,_⟩:=EX.ns hn
  obtain⟨k1,k2,k3,oe,vs,T,oT,ts,ge,gc,gd,g1,nT,Fo,gT,dT,g3⟩:=hh
  have He:∀b o ws,h1.get? b=some o→o.data=.fields ws→b≠C:=fun b o ws q d z=>by
   rw [z,gC] at q
   cases q
   rw [dC] at d
   cases d
  have Rv:=(sb.2 x (He _ _ _ ge gd)).trans ge
  have Ue:=(sb.2 T (He _ _ _ gT dT)).trans gT
  have nB:∀b,B.get? b=none→(Xr B [C]).get? b=none:=fun b q=>by
   cases z:(Xr B [C]).get? b with
   | none=>rfl
   | some o=>rw [sB b o z] at q;cases q
  have Ug:uB (Xr B [C]) (Cx.stack (cQ P w K mg base N qual scope f cd A outer s₀ H₀ E)) x cls a0 h2:=by
   refine⟨fun b o q=>?_,nB _ k2,PySem.W.funFrames_base sB (qb sb k3 Lb),_,oe,vs,T,oT,ts,Rv,gc,gd,g1,nB _ nT,Fo,Ue,dT,g3⟩
   have hb:b≠C:=fun z=>by rw [z,nC] at q;cases q
   exact(sb.2 b hb).trans (k1 b o (sB b o q))
  have OS:gO P w H' (Xr B [C]):=fun b o q=>(hok b o q).wc (fun c u hc r=>gB c u (fun z=>by
   rw [z] at hc
   rcases hc with e|e
   ·rw [e] at OQ
    rw [OQ] at q
    cases q
   ·rw [OQ] at e
    cases e) r) (fun _ r=>r) fun _ _ r=>r
  have old:∀b o,s₀.heap.get? b=some o→b≠C:=fun b o q=>W2 (WR (WH q) hC)
  unfold PySem.passOn
  refine Wu (wpAny_field Rv gd g1 ?_)
  rw [if_neg (by simp)]
  have fin:W7 (model P w) (Cx.A (cQ P w K mg base N qual scope f cd A outer s₀ H₀ E)) (setFlight (.ref x) OR.frame) (fun _ s2=>W7 (model P w) (Cx.A (cQ P w K mg base N qual scope f cd A outer s₀ H₀ E)) (throw (.ref x):Sem Wr) (fun _ _=>False) (Cx.xe (cQ P w K mg base N qual scope f cd A outer s₀ H₀ E)) s2) (Cx.xe (cQ P w K mg base N qual scope f cd A outer s₀ H₀ E)) { s' with heap:=h2 }:=by
   refine yQ Ug fun h3 Uh CU=>wpAny_throw (uC.out mv (Ud.heap sub Uh OS (fun b o q n hb=>gB b o (old b o q) (kp b o q n hb)) (fun b o q hb=>?_) fun b o hb e hd=>CU b o ((sb.2 b fun z=>Lb (by rw [← z];exact hb)).trans e) hd) hE)
   obtain⟨o',e'⟩:=th b o q hb
   exact⟨o',gB b o' (old b o q) e'⟩
  first
   | exact Wu (WI (Wu fin))
   | exact Wu fin
 ·exact⟨m,hn,fun h' sb=>⟨.ref D,H',J.turned (t':=s'.toks) (fun b o hb e=>(sb.2 b hb).trans e) hf.1 hf.2.1 hf.2.2.2.1 hf.2.2.2.2.1 hf.2.2.2.2.2,rfl,q⟩⟩
end
end L2
namespace Bk
open PySem L2 bB
def xu (l:List Cs):Bool:=decide (l.length=3) && (aR (l.getD 0 []) && aR (l.getD 2 []))
def je (l:List Cs):Option Lk:=if xu l=true then (if l.getD 1 []=bI then some ⟨true,l.getD 0 [],l.getD 2 []⟩ else if l.getD 1 []=d7 then some ⟨false,l.getD 0 [],l.getD 2 []⟩ else none) else none
def nU (l:List Cs):Option (Cs × Cs):=if xu l=true then (if l.getD 1 []=[61] then some (l.getD 0 [],l.getD 2 []) else none) else none
def iQ {α β:Type} (f:α→Option β):List α→Option (List β)
 | []=>some []
 | a::r=>match f a with
  | none=>none
  | some b=>(iQ f r).map (b :: ·)
def iG (n:Nat) (ps:List Cs):Option Pt:=if n=2 then (iQ je (aN [44] ps [[]])).map .lk else if n=4 then (iQ nU (aN [44] ps [[]])).map .pr else (uA (ps.length+1) ps).map .fs
def qc (p:Cs):Option Nat:=if p=eB then some 0 else if p=bW then some 1 else if p=eC then some 2 else if p=iF then some 3 else if p=pU then some 4 else none
def cL:Nat→List (List Cs)→Option (List Pr)
 | _,[]=>some []
 | m,r::t=>match qc (r.getD 0 []) with
  | none=>none
  | some n=>if m≤n then (match iG n (r.drop 1) with
   | none=>none
   | some p=>(cL (n+1) t).map (⟨n,r.drop 1,p⟩ :: ·)) else none
def dG (l:List Cs):Option (Cs × List Pr):=if l.getD 0 []=aY∧aH (l.getD 1 [])=true∧l.getD 2 []=[58] then (match cL 0 (aN [59] (l.drop 3) [[]]) with
 | none=>none
 | some L=>if L.any (fun x=>decide (x.n<2))=true then some (l.getD 1 [],L) else none) else none
def cH (l:List Cs):Option Kd:=if (l.length=3∧(l.getD 0 []=aW∨l.getD 0 []=aP))∧aH (l.getD 1 [])=true∧l.getD 2 []∈[[48],[49],[50],[51],[52]] then some ⟨l.getD 1 [],(l.getD 2 []).headD 0 - 48,decide (l.getD 0 []=aP)⟩ else none
def bc (p:Cs):Option It:=if p.all (gP cj)=true then (if (toks p).getD 0 []=aY then (dG (toks p)).map fun q=>.rule q.1 q.2 else (cH (toks p)).map .kind) else none
inductive Rd where
 | bad
 | twice
 | ok (ks:List Kd) (rs:List Rl)
def bN:List Cs→List Kd→List Rl→Rd
 | [],ks,rs=>.ok ks rs
 | p::r,ks,rs=>match bc p with
  | none=>.bad
  | some (.kind k)=>if k.n∈ks.map (·.n) then .twice else bN r (ks++[k]) rs
  | some (.rule t L)=>if t∈rs.map (·.title) then .twice else bN r ks (rs++[jb t L])
theorem tj (f:Cs→Nat) (m:Cs):∀(ps:List Cs) (rows:List (List Cs)) (B:Nat),(∀r∈rows,(r.map f).sum≤B)→∀r∈aN m ps rows,(r.map f).sum≤B+(ps.map f).sum
 | [],rows,B,h,r,hr=>by have:=h r hr;show(r.map f).sum≤B+0;omega
 | p::q,rows,B,h,r,hr=>by
  have ih:=tj f m q (d6 m p rows) (B+f p) (by
   intro x hx
   unfold d6 at hx
   split at hx
   ·rcases WU.mp hx with hx|hx
    ·have:=h x hx;omega
    ·rw [Wy.mp hx];exact Xs _
   ·rcases WU.mp hx with hx|hx
    ·have:=h x ((Y1 rows).subset hx);omega
    ·rw [Wy.mp hx,WQ,List.sum_append]
     have:((rows.getLastD []).map f).sum≤B:=by
      cases rows with
      | nil=>exact Xs _
      | cons a t=>exact h _ (ZQ (by simp:a::t≠[]))
     simp only [Xd,YY,ZK,List.sum_nil]
     omega) r hr
  rw [Xd,ZK]
  omega
theorem nV (m:Cs) (P:Cs→Prop):∀(ps:List Cs) (rows:List (List Cs)),(∀r∈rows,∀c∈r,P c)→(∀c∈ps,P c)→∀r∈aN m ps rows,∀c∈r,P c
 | [],rows,h,_,r,hr=>h r hr
 | p::q,rows,h,h2,r,hr=>nV m P q (d6 m p rows) (by
   intro x hx
   unfold d6 at hx
   split at hx
   ·rcases WU.mp hx with hx|hx
    ·exact h x hx
    ·rw [Wy.mp hx];intro c hc;cases hc
   ·rcases WU.mp hx with hx|hx
    ·exact h x ((Y1 rows).subset hx)
    ·rw [Wy.mp hx]
     intro c hc
     rcases WU.mp hc with hc|hc
     ·cases rows with
      | nil=>cases hc
      | cons a t=>exact h _ (ZQ (by simp:a::t≠[])) c hc
     ·rw [Wy.mp hc];exact h2 p (by simp)) (fun c hc=>h2 c (Ww _ hc)) r hr
theorem cG.parted {ps:List Cs} (h:cG ps) (m:Cs):∀r∈aN m ps [[]],cG r:=by
 intro r hr
 have z1:=kz m ps [[]] 0 (by simp) r hr
 have z2:=tj XF m ps [[]] 0 (by simp) r hr
 have:=h.n
 have:=h.sum
 exact⟨by omega,by omega,nV m (fun p=>∀c∈p,c<16 ^ 8) ps [[]] (by simp) h.IA r hr⟩
theorem DA (f:Cs→Nat) (ps:List Cs) (k:Nat):((ps.drop k).map f).sum≤(ps.map f).sum:=by
 have e:((ps.take k++ps.drop k).map f).sum=(ps.map f).sum:=by rw [X7]
 rw [WQ,List.sum_append] at e
 omega
theorem cG.drop {ps:List Cs} (h:cG ps) (k:Nat):cG (ps.drop k):=by
 have z:=DA XF ps k
 have:=h.n
 have:=h.sum
 exact⟨by rw [Xc];omega,by omega,fun p hp=>h.IA p (Yw hp)⟩
theorem cG.shown {ps:List Cs} (h:cG ps):(∀b∈ps.map S,b.length≤20000∧∀c∈b.cps.toList,c<16 ^ 8)∧((ps.map S).map (·.length)).sum≤50000∧(ps.map S).length≤50000:=by
 have:=h.n
 have:=h.sum
 refine⟨fun b hb=>?_,?_,by rw [Lm9];omega⟩
 ·obtain⟨a,ha,rfl⟩:=Xu.mp hb
  exact⟨by rw [aV];exact W5 (g7 ha) h.sum,by rw [ba];exact h.IA a ha⟩
 ·rw [XT,show((fun x:Str=>x.length) ∘ S)=XF from funext fun a=>aV a]
  omega
theorem qd {α β:Type} {f:α→Option β}:∀{l:List α} {a:α},a∈l→f a=none→iQ f l=none
 | b::r,a,h,e=>by
  show(match f b with|none=>none|some c=>(iQ f r).map (c :: ·))=none
  rcases WS.mp h with z|z
  ·rw [← z,e]
  ·rw [qd z e]
   cases f b <;> rfl
theorem tm {α β:Type} {f:α→Option β}:∀{l:List α} {bs:List β} {a:α} {b:β},iQ f l=some bs→f a=some b→iQ f (l++[a])=some (bs++[b])
 | [],bs,a,b,h,e=>by
  cases h
  show(match f a with|none=>none|some c=>(some []).map (c :: ·))=_
  rw [e]
  rfl
 | x::r,bs,a,b,h,e=>by
  have h':(match f x with|none=>none|some c=>(iQ f r).map (c :: ·))=some bs:=h
  show(match f x with|none=>none|some c=>(iQ f (r++[a])).map (c :: ·))=_
  cases ex:f x with
  | none=>rw [ex] at h';cases h'
  | some c =>
   rw [ex] at h'
   obtain⟨cs,hc,rfl⟩:=YT.mp h'
   show(iQ f (r++[a])).map (c :: ·)=_
   rw [tm hc e]
   rfl
theorem tq {tt:TE} {aQ:List Nat} {σ:St} {H1:Hp} {Q:VK} {K:Wo} {a:WA} {xs:List V} {D:WA} {α β:Type} (f:α→Option β) (as:List α) (Out:Hp→Hp→β→V→Prop)
  (keep:∀H0 H H' b y,Kp H0 H H'→Out H0 H b y→Out H0 H' b y) (bw:∀H0 H2 H b y,(∀c,H2 c=none→H0 c=none)→Out H2 H b y→Out H0 H b y)
  (hn:xs.length<Wt) (uf:H1 D=none) (hl:aI K H1 a xs) (hb:as.length=xs.length)
  (he:∀(i:Nat) x b H' R,xs[i]?=some x→as[i]?=some b→aj H1 H'→(f b=none→iQ f as=none)→(∀z y jM,f b=some z→aj H' jM→Out H' jM z y→R y jM)→tt (bM σ (some x) aQ) H' R)
  (hd:∀bs H' ys,iQ f as=some bs→aj H1 H'→H' D=some (.lst ys)→Paired (Out H1 H') bs ys→Q (.ref D) H'):lF HJ tt aQ σ Q (Cq K a) H1 D:=by
 have s0:aj H1 (upd H1 D (.lst [])):=ai uf _
 have Df:∀c,upd H1 D (.lst []) c=none→H1 c=none:=fun c h=>s0.free h
 refine gA (K:=K) (a:=a) (xs:=xs) hn (fun i ys H'=>aj H1 H'∧H' D=some (.lst ys)∧(∀c,H' c=none→upd H1 D (.lst []) c=none)∧ys.length≤i∧∃bs,iQ f (as.take i)=some bs∧Paired (Out (upd H1 D (.lst [])) H') bs ys) ⟨s0,ae,fun _ h=>h,Wz _,[],rfl,.nil⟩
  (fun i ys H' p=>p.1.seq hl) (fun i ys H' p=>⟨p.2.1,p.2.2.2.1⟩) (fun i ys H' hi p=>?_) (fun ys H' p=>?_)
 ·obtain⟨p1,p2,p3,p4,bs,p5,p6⟩:=p
  have hx:xs.getD i .bG=xs[i]:=by rw [Gd9,Ge9 hi];rfl
  rw [hx]
  have lL:i<as.length:=by omega
  refine he i xs[i] as[i] H' _ (Ge9 hi) (Ge9 lL) p1 (fun z=>qd (WT lL) z) fun b y H2 ez s2 ho=>?_
  have mw:=s2 _ _ p2
  have kp:Kp (upd H1 D (.lst [])) H2 (upd H2 D (.lst (ys++[y]))):=Kp.upd ae mw (by intro xs z;cases z) (by intro o u z;cases z)
  refine⟨mw,aj.aS (aj.trans p1 s2) uf _,ae,fun c h=>?_,by rw [Wq,WL];omega,bs++[b],?_,?_⟩
  ·exact p3 c (s2.free (kp.oW c h))
  ·rw [WB lL]
   exact tm p5 ez
  ·exact(L2.Paired.cP p6 fun b v z=>keep _ _ _ _ _ kp (keep _ _ _ _ _ (Kp.same s2) z)).snoc (keep _ _ _ _ _ kp (bw _ _ _ _ _ p3 ho))
 ·obtain⟨p1,p2,p3,p4,bs,p5,p6⟩:=p
  rw [XA (by omega)] at p5
  exact hd bs H' ys p5 p1 p2 (L2.Paired.cP p6 fun b v h=>bw _ _ _ _ _ (fun c h=>by
   by_cases e:c=D
   ·rw [e];exact uf
   ·exact Df c h) h)
def Ar (C:WA):Sp:=fun vs H Q E=>∃p:Cs,vs=[tx p]∧p.length≤20000∧(∀c∈p,c<16 ^ 8)∧(p.all (gP cj)=false→Ref C H E)∧(p.all (gP cj)=true→∀v H',aj H H'→nI H H' v (toks p)→Q v H')
def As (K:Wo) (C:WA):Sp:=fun vs H Q E=>∃(l:WA) (ps:List Cs),vs=[.ref l]∧H l=some (.lst (ps.map tx))∧cG ps∧(cH ps=none→Ref C H E)∧∀k,cH ps=some k→∀v H',aj H H'→Kind K H' k v→Q v H'
def yS (C:WA):Sp:=fun vs H Q E=>∃(l:WA) (ps:List Cs),vs=[.ref l]∧H l=some (.lst (ps.map tx))∧cG ps∧(xu ps=false→Ref C H E)∧(xu ps=true→∀H',aj H H'→Q .bG H')
def Au (c:Cl) (C:WA):Sp:=fun vs H Q E=>∃(l:WA) (ps:List Cs),vs=[.ref l]∧H l=some (.lst (ps.map tx))∧cG ps∧(je ps=none→Ref C H E)∧∀k,je ps=some k→∀v H',aj H H'→jR c H H' k v→Q v H'
def Av (K:Wo) (C:WA):Sp:=fun vs H Q E=>∃(l:WA) (ps:List Cs),vs=[.ref l]∧H l=some (.lst (ps.map tx))∧cG ps∧(nU ps=none→Ref C H E)∧∀k,nU ps=some k→∀v H',aj H H'→Pair K H' k v→Q v H'
def xw (c:Cl) (C:WA):Sp:=fun vs H Q E=>∃(l:WA) (ps:List Cs),vs=[.ref l]∧H l=some (.lst (ps.map tx))∧cG ps∧(iQ je (aN [44] ps [[]])=none→Ref C H E)∧∀ks,iQ je (aN [44] ps [[]])=some ks→∀v H',aj H H'→Looks c H H' v ks→Q v H'
def xx (K:Wo) (C:WA):Sp:=fun vs H Q E=>∃(l:WA) (ps:List Cs),vs=[.ref l]∧H l=some (.lst (ps.map tx))∧cG ps∧(iQ nU (aN [44] ps [[]])=none→Ref C H E)∧∀ks,iQ nU (aN [44] ps [[]])=some ks→∀v H',aj H H'→Pairs K H H' v ks→Q v H'
def Aw (K:Wo) (c:Cl) (C:WA):Sp:=fun vs H Q E=>∃(l:WA) (n:Nat) (ps:List Cs),vs=[tx (wordAt n),.ref l]∧n<5∧H l=some (.lst (ps.map tx))∧cG ps∧(iG n ps=none→Ref C H E)∧∀p,iG n ps=some p→∀v H',aj H H'→cC K c H H' v p→Q v H'
def Ax (K:Wo) (c:Cl) (C:WA):Sp:=fun vs H Q E=>∃(l:WA) (ps:List Cs),vs=[.ref l]∧H l=some (.lst (ps.map tx))∧cG ps∧(dG ps=none→Ref C H E) ∧
 ∀title L,dG ps=some (title,L)→∀(t d:WA) (kvs:List (Key × V)) (H':Hp),aj H H'→H' t=some (.tup [tx title,.ref d])→H d=none→H' d=some (.dK kvs)→bU K c H H' L kvs→Q (.ref t) H'
def GJ (K:Wo) (c:Cl) (C1 C2:WA) (H0 H:Hp) (lk lr:WA) (ks:List Kd) (rs:List Rl) (kvs jU:List V) (Q:VK) (E:XK):Option It→Prop
 | none=>Ref C1 H E
 | some (.kind k)=>(k.n∈ks.map (·.n)→Ref C2 H E)∧(k.n∉ks.map (·.n)→∀v H',(∀b o,b≠lk→H b=some o→H' b=some o)→pX K c H0 H' lk lr (ks++[k]) rs (kvs++[v]) jU→Q .bG H')
 | some (.rule t L)=>(t∈rs.map (·.title)→Ref C2 H E)∧(t∉rs.map (·.title)→(∀x∈L,x.n<5∧jS x.n x.ps x.p)∧Im (jb t L)∧∀v H',(∀b o,b≠lr→H b=some o→H' b=some o)→pX K c H0 H' lk lr ks (rs++[jb t L]) kvs (jU++[v])→Q .bG H')
def Ay (K:Wo) (c:Cl) (C1 C2:WA):Sp:=fun vs H Q E=>∃(H0:Hp) (lk lr:WA) (ks:List Kd) (rs:List Rl) (kvs jU:List V) (p:Cs),vs=[.ref lk,.ref lr,tx p]∧pX K c H0 H lk lr ks rs kvs jU∧ks.length<10000∧rs.length<10000∧p.length≤20000∧(∀c∈p,c<16 ^ 8)∧(p.all (gP cj)=true→toks p≠[])∧GJ K c C1 C2 H0 H lk lr ks rs kvs jU Q E (bc p)
structure Az (ls:List Cs):Prop where
 ne:ls≠[]
 no:∀l∈ls,10∉l
 len:(b6 ls).length≤20000
 IA:∀l∈ls,∀c∈l,c<16 ^ 8
 few:ls.length<10000
 tk:∀l∈ls,told l=true→l.all (gP cj)=true→toks l≠[]
 rl:∀l∈ls,∀t L,bc l=some (.rule t L)→(∀x∈L,x.n<5∧jS x.n x.ps x.p)∧Im (jb t L)
def GK (K:Wo) (c:Cl) (C1 C2:WA) (H:Hp) (Q:VK) (E:XK):Rd→Prop
 | .bad=>Ref C1 H E
 | .twice=>Ref C2 H E
 | .ok ks rs=>(∀r∈rs,pY ks r)∧∀v H',aj H H'→wL K c H H' ks rs v→Q v H'
def AA (K:Wo) (c:Cl) (C1 C2:WA):Sp:=fun vs H Q E=>∃ls:List Cs,vs=[tx (b6 ls)]∧Az ls∧GK K c C1 C2 H Q E (bN (ls.filter told) [] [])
end Bk
namespace Bk
open PySem L2 bB
theorem mU:∀(l cur:Cs),a6 l cur=[]→cur=[]∧∀c∈l,c=32
 | [],cur,h=>by
  have h':shut cur []=[]:=h
  unfold shut at h'
  by_cases e:cur=[]
  ·exact⟨e,fun c hc=>nomatch hc⟩
  ·rw [if_neg e] at h';cases h'
 | c::r,cur,h=>by
  have h':(if aG c=true then a6 r (cur++[c]) else shut cur (if c=32 then a6 r [] else [c]::a6 r []))=[]:=h
  by_cases ha:aG c=true
  ·rw [if_pos ha] at h'
   have z:=(mU r _ h').1
   simp at z
  ·rw [if_neg ha] at h'
   unfold shut at h'
   by_cases e:cur=[]
   ·rw [if_pos e] at h'
    by_cases hc:c=32
    ·rw [if_pos hc] at h'
     refine⟨e,fun d hd=>?_⟩
     rcases WS.mp hd with z|z
     ·rw [z,hc]
     ·exact(mU r _ h').2 d z
    ·rw [if_neg hc] at h';cases h'
   ·rw [if_neg e] at h';cases h'
theorem DB {p:Cs} (h:told p=true):toks p≠[]:=fun z=>by
 have e:=(mU p [] z).2
 have e2:p.dropWhile (· == 32)=[]:=by
  clear h z
  induction p with
  | nil=>rfl
  | cons a r ih =>
   rw [Zd,e a (by simp)]
   exact ih fun c hc=>e c (Ww _ hc)
 unfold told at h
 rw [e2] at h
 cases h
theorem gK {c:Nat} {r:Cs} (h1:c≠32) (h2:c≠35):told (c::r)=true:=by
 unfold told
 rw [Zd,if_neg (by simpa using h1)]
 simpa using h2
theorem DC {A r:Cs} (hA:aG (A.getLastD 32)=false):toks (A++r)=toks A++toks r:=by
 rcases Z9 A with e|⟨a,c,e⟩
 ·rw [e];rfl
 ·rw [e] at hA ⊢
  have hc:aG c=false:=by simpa using hA
  rw [aaa,WK,List.singleton_append,xo hc,xo hc]
  unfold Fn
  split <;> simp [toks,a6,shut]
theorem tu {A m B:Cs} (hA:aG (A.getLastD 32)=false) (hm:m.all aG=true) (h0:m≠[]) (hB:aG (B.headD 32)=false):toks (A++(m++B))=toks A++m::toks B:=by
 rw [DC hA,mK hm h0]
 cases B with
 | nil=>trivial
 | cons c r=>exact hB
theorem DD {m:Cs} (h:m.all aG=true):m.all (gP cj)=true:=by
 rw [Xa] at h ⊢
 intro c hc
 unfold gP
 rw [h c hc]
 rfl
def xy (l:List Cs):Option It:=if l.getD 0 []=aY then (dG l).map fun q=>.rule q.1 q.2 else (cH l).map .kind
theorem dz {A m B:Cs} (hA:aG (A.getLastD 32)=false) (hm:m.all aG=true) (h0:m≠[]) (hB:aG (B.headD 32)=false):bc (A++(m++B))=if (A.all (gP cj) && B.all (gP cj))=true then xy (toks A++m::toks B) else none:=by
 unfold bc xy
 rw [tu hA hm h0 hB,Xi,Xi,DD hm,YR]
def iH (l:List Cs):Bool:=match cL 0 (aN [59] l [[]]) with
 | none=>true
 | some L=>!(L.any fun x=>decide (x.n<2))
def Fp (B:Cs):Bool:=!(B.all (gP cj)) || (match toks B with
 | p::r=>!(decide (p=[58])) || iH r
 | []=>true)
abbrev fq:Cs:=[114,117,108,101,32]
theorem qe {n:Cs} {l:List Cs} (h:iH l=true):dG (aY::n::[58]::l)=none:=by
 unfold dG
 split
 ·show(match cL 0 (aN [59] l [[]]) with|none=>none|some L=>if L.any (fun x=>decide (x.n<2))=true then some (n,L) else none)=none
  unfold iH at h
  cases e:cL 0 (aN [59] l [[]]) with
  | none=>rfl
  | some L =>
   rw [e] at h
   have h':(!(L.any fun x=>decide (x.n<2)))=true:=h
   show(if L.any (fun x=>decide (x.n<2))=true then some (n,L) else none)=none
   rw [if_neg (by simpa using h')]
 ·rfl
theorem qf {n B:Cs} (hn:n.all aG=true) (h0:n≠[]) (hB:aG (B.headD 32)=false) (h:Fp B=true):bc (fq++(n++B))=none:=by
 rw [dz (by decide) hn h0 hB]
 unfold Fp at h
 by_cases hk:B.all (gP cj)=true
 ·rw [hk,Bool.and_true,if_pos (by decide)]
  rw [hk] at h
  show(if aY=aY then (dG (aY::n::toks B)).map (fun q=>It.rule q.1 q.2) else _)=none
  rw [if_pos rfl]
  cases e:toks B with
  | nil=>unfold dG;rw [if_neg (fun z=>by have z2:=z.2.2;cases z2)];rfl
  | cons p r =>
   rw [e] at h
   have h':(!(decide (p=[58])) || iH r)=true:=h
   by_cases hp:p=[58]
   ·rw [hp,qe (by simpa [hp] using h')];rfl
   ·unfold dG;rw [if_neg fun z=>hp z.2.2];rfl
 ·rw [if_neg (by simp [hk])]
theorem tw {m B:Cs} (hm:m.all aG=true) (h0:m≠[]) (hs:aH m=false) (hB:aG (B.headD 32)=false):bc (fq++(m++B))=none:=by
 rw [dz (by decide) hm h0 hB]
 split
 ·show(if aY=aY then (dG (aY::m::toks B)).map (fun q=>It.rule q.1 q.2) else _)=none
  rw [if_pos rfl]
  unfold dG
  rw [if_neg fun z=>by have z2:aH m=true:=z.2.1;rw [hs] at z2;cases z2]
  rfl
 ·rfl
def DE (A B:Cs):Bool:=match toks A with
 | w::r=>decide (w≠aY) && (decide (r.length+(toks B).length≠1) || (r.isEmpty && (decide (w≠aW∧w≠aP) || !(decide ((toks B).getD 0 []∈[[48],[49],[50],[51],[52]])))))
 | []=>false
theorem xA {A m B:Cs} (hm:m.all aG=true) (h0:m≠[]) (hA:aG (A.getLastD 32)=false) (hB:aG (B.headD 32)=false) (h:!(A.all (gP cj) && B.all (gP cj)) || DE A B):bc (A++(m++B))=none:=by
 rw [dz hA hm h0 hB]
 by_cases hk:(A.all (gP cj) && B.all (gP cj))=true
 ·rw [hk] at h
  rw [if_pos hk]
  have h':DE A B=true:=by simpa using h
  unfold DE at h'
  cases e:toks A with
  | nil=>rw [e] at h';cases h'
  | cons w r =>
   rw [e] at h'
   simp only [WG,decide_eq_true_eq,aab] at h'
   obtain⟨hw,h'⟩:=h'
   show(if w=aY then _ else (cH (w::(r++m::toks B))).map It.kind)=none
   rw [if_neg hw]
   unfold cH
   rw [if_neg]
   ·rfl
   rintro⟨⟨z1,z2⟩,z3,z4⟩
   simp only [WC,Wq] at z1
   rcases h' with h'|⟨hr,h'⟩
   ·omega
   ·have er:r=[]:=by simpa using hr
    subst er
    rcases h' with h'|h'
    ·rcases z2 with z2|z2
     ·exact h'.1 z2
     ·exact h'.2 z2
    ·have z4:(toks B).getD 0 []∈[[48],[49],[50],[51],[52]]:=z4
     rw [decide_eq_true z4] at h'
     cases h'
 ·rw [if_neg hk]
theorem mV {A m B:Cs} {w:Cs} (hm:m.all aG=true) (h0:m≠[]) (hs:aH m=false) (hA:aG (A.getLastD 32)=false) (hB:aG (B.headD 32)=false) (e:toks A=[w]) (hw:w≠aY):bc (A++(m++B))=none:=by
 rw [dz hA hm h0 hB]
 split
 ·rw [e]
  show(if w=aY then _ else (cH (w::m::toks B)).map It.kind)=none
  rw [if_neg hw]
  unfold cH
  rw [if_neg fun z=>by have z2:aH m=true:=z.2.1;rw [hs] at z2;cases z2]
  rfl
 ·rfl
theorem Bl {n:Cs} (hn:n.all aG=true) (h0:n≠[]):bc (n++32::n)=none:=by
 have e:=dz (A:=[]) (m:=n) (B:=32::(n++[])) (by decide) hn h0 wK
 have e2:toks (32::(n++[]))=[n]:=by rw [pQ,mK (r:=[]) hn h0 trivial];rfl
 rw [Xh,YO] at e
 rw [Xh] at e2
 rw [e]
 split
 ·rw [e2]
  show(if n=aY then (dG [n,n]).map (fun q=>It.rule q.1 q.2) else (cH [n,n]).map It.kind)=none
  split
  ·unfold dG;rw [if_neg (fun z=>by have z2:=z.2.2;cases z2)];rfl
  ·unfold cH;rw [if_neg (fun z=>by have z2:=z.1.1;cases z2)];rfl
 ·rfl
theorem yT {n:Cs} (hn:n.all aG=true) (h0:n≠[]):bc ((aW++n)++[32,49])=none:=by
 have e:=dz (A:=[]) (m:=aW++n) (B:=[32,49]) (by decide) (by rw [Xi,hn];decide) (by simp) (by decide)
 rw [YO] at e
 rw [e,if_pos (by decide)]
 show(if aW++n=aY then _ else (cH [aW++n,[49]]).map It.kind)=none
 rw [if_neg (fun z=>by have z2:=congrArg XF z;simp at z2)]
 unfold cH
 rw [if_neg (fun z=>by have z2:=z.1.1;cases z2)]
 rfl
theorem DF {n A B m:Cs} (hn:n.all aG=true) (h0:n≠[]) (hm:m.all aG=true) (OT:m≠[]) (hA:aG (A.getLastD 32)=false) (Ui:A≠[]) (Uj:aG (A.headD 32)=false) (hk:A.all (gP cj)=true) {l:List Cs} (e:toks A=[58]::l) (h:iH (l++[m])=true):bc (fq++(n++(A++m)))=none:=by
 have e2:=dz (A:=fq++(n++A)) (m:=m) (B:=[]) (by
  rw [← WK]
  have z:(fq++n++A).getLastD 32=A.getLastD 32:=by
   rcases Z9 A with e|⟨a,c,e⟩
   ·exact absurd e Ui
   ·rw [e,aaa,← WK]
    have k:∀x:Cs,(x++[c]).getLastD 32=c:=fun x=>by simp
    rw [k,k]
  rw [z];exact hA) hm OT (by decide)
 rw [Xh,tu (by decide) hn h0 Uj,e] at e2
 rw [show fq++(n++(A++m))=fq++(n++A)++m by simp,e2]
 split
 ·show(if aY=aY then (dG (aY::n::[58]::(l++[m]))).map (fun q=>It.rule q.1 q.2) else _)=none
  rw [if_pos rfl,qe h]
  rfl
 ·rfl
end Bk
namespace Bk
open PySem L2 bB
def Fq (c:Nat):Bool:=decide (c≠10∧c<128)
structure b7 (p:Cs):Prop where
 none:bc p=none
 told:told p=true
 ok:p.all Fq=true
 len:p.length≤120
structure df (n:Cs):Prop where
 al:n.all aG=true
 ne:n≠[]
 len:n.length≤24
theorem tD {n:Cs} (h:n.all aG=true):n.all Fq=true:=by
 rw [Xa] at h ⊢
 intro c hc
 have z:=h c hc
 have k:∀l:List Nat,l.all Fq=true→c∈l→Fq c=true:=fun l hl Uk=>Xa.mp hl c Uk
 unfold aG at z
 simp only [aab,decide_eq_true_eq] at z
 rcases z with z|z|z
 ·exact k _ (by decide +kernel) z
 ·exact k _ (by decide +kernel) z
 ·exact k _ (by decide +kernel) z
theorem uD {n:Cs} (N:df n) (r:Cs):Bk.told (n++r)=true:=by
 cases n with
 | nil=>exact absurd rfl N.ne
 | cons c t =>
  have z:aG c=true:=by have z:=N.al;rw [XJ,WG] at z;exact z.1
  exact gK (fun e=>by rw [e] at z;exact absurd z (by decide +kernel)) (fun e=>by rw [e] at z;exact absurd z (by decide +kernel))
def AB (A B:Cs):Bool:=A.all Fq && (B.all Fq && (decide (A.length+B.length≤76) && (decide (A.headD 0≠32) && (decide (A.headD 0≠35) && (!(aG (A.getLastD 32)) && !(aG (B.headD 32)))))))
theorem b7.Eu {A m B:Cs} (M:df m) (h:AB A B=true) (hn:aG (A.getLastD 32)=false→aG (B.headD 32)=false→bc (A++(m++B))=ZF):b7 (A++(m++B)):=by
 unfold AB at h
 simp only [WG,decide_eq_true_eq,Yd] at h
 obtain⟨h1,h2,h3,h4,h5,h6,h7⟩:=h
 refine⟨hn h6 h7,?_,by rw [Xi,Xi,h1,h2,tD M.al];rfl,by rw [Wq,Wq];have:=M.len;omega⟩
 cases A with
 | nil=>exact uD M B
 | cons c r=>exact gK h4 h5
theorem gL (a n b:Str):((a++n)++b).cps.toList=a.cps.toList++(n.cps.toList++b.cps.toList):=by rw [W8,W8,WK]
theorem Lc (a n:Str):(a++n).cps.toList=a.cps.toList++(n.cps.toList++[]):=by rw [W8,Xh]
theorem nW:(Wn "rule ").cps.toList=fq:=by decide +kernel
theorem b7.rule {n b:Str} (N:df n.cps.toList) (h:(AB fq b.cps.toList && Fp b.cps.toList)=true):b7 ((Wn "rule "++n)++b).cps.toList:=by
 rw [WG] at h
 rw [gL,nW]
 exact .Eu N h.1 fun _ h7=>qf N.al N.ne h7 h.2
theorem b7.Ld {n:Str} (N:df n.cps.toList):b7 (Wn "rule "++n).cps.toList:=by
 rw [Lc,nW]
 exact .Eu N (by decide +kernel) fun _ h7=>qf N.al N.ne h7 (by decide +kernel)
theorem b7.rest {n c b:Str} (N:df n.cps.toList) (h:(AB fq (c.cps.toList++b.cps.toList) && Fp (c.cps.toList++b.cps.toList))=true):b7 (((Wn "rule "++n)++c)++b).cps.toList:=by
 rw [WG] at h
 rw [W8,gL,nW,WK,WK]
 exact .Eu N h.1 fun _ h7=>qf N.al N.ne h7 h.2
theorem b7.title {n b:Str} (N:df n.cps.toList) (hs:aH n.cps.toList=false) (h:AB fq b.cps.toList=true):b7 ((Wn "rule "++n)++b).cps.toList:=by
 rw [gL,nW]
 exact .Eu N h fun _ h7=>tw N.al N.ne hs h7
theorem b7.kind {a n b:Str} (N:df n.cps.toList) (h:(AB a.cps.toList b.cps.toList && (!(a.cps.toList.all (gP cj) && b.cps.toList.all (gP cj)) || DE a.cps.toList b.cps.toList))=true):b7 ((a++n)++b).cps.toList:=by
 rw [WG] at h
 rw [gL]
 exact .Eu N h.1 fun h6 h7=>xA N.al N.ne h6 h7 h.2
theorem b7.Le {a n:Str} (N:df n.cps.toList) (h:(AB a.cps.toList [] && (!(a.cps.toList.all (gP cj) && true) || DE a.cps.toList []))=true):b7 (a++n).cps.toList:=by
 rw [WG] at h
 rw [Lc]
 exact .Eu N h.1 fun h6 h7=>xA N.al N.ne h6 h7 h.2
theorem b7.Lf {a n b:Str} (N:df n.cps.toList) (hs:aH n.cps.toList=false) (h:(AB a.cps.toList b.cps.toList && (decide ((toks a.cps.toList).length=1) && decide ((toks a.cps.toList).getD 0 []≠aY)))=true):b7 ((a++n)++b).cps.toList:=by
 simp only [WG,decide_eq_true_eq] at h
 obtain⟨h1,h2,h3⟩:=h
 rw [gL]
 refine .Eu N h1 fun h6 h7=>?_
 cases e:toks a.cps.toList with
 | nil=>rw [e] at h2;cases h2
 | cons w r =>
  cases r with
  | nil=>rw [e] at h3;exact mV N.al N.ne hs h6 h7 e h3
  | cons w2 r2=>rw [e] at h2;simp at h2
theorem b7.tail {n B m:Cs} (N:df n) (hl:n.length≤12) (M:df m) (h:(AB fq B && (!(aG (B.getLastD 32)) && B.all (gP cj)))=true) {l:List Cs} (e:toks B=[58]::l) (hb:iH (l++[m])=true):b7 (fq++(n++(B++m))):=by
 unfold AB at h
 simp only [WG,decide_eq_true_eq,Yd] at h
 obtain⟨⟨h1,h2,h3,h4,h5,h6,h7⟩,h8,h9⟩:=h
 refine⟨DF (B:=[]) N.al N.ne M.al M.ne h8 (fun z=>by rw [z] at e;cases e) h7 h9 e hb,gK (by decide) (by decide),by rw [Xi,Xi,Xi,h1,h2,tD N.al,tD M.al];rfl,?_⟩
 have:=M.len
 rw [Wq,Wq,Wq]
 omega
theorem jf {p:Str} (h:(p.cps.toList.all Fq && (decide (p.cps.toList.length≤120) && (told p.cps.toList && (!(p.cps.toList.all (gP cj)) || (match xy (toks p.cps.toList) with|none=>true|some _=>false)))))=true):b7 p.cps.toList:=by
 simp only [WG,decide_eq_true_eq,aab,Yd] at h
 obtain⟨h1,h2,h3,h4⟩:=h
 refine⟨?_,h3,h1,h2⟩
 unfold bc
 rcases h4 with h4|h4
 ·rw [if_neg (by rw [h4];decide)]
 ·split
  ·have k:xy (toks p.cps.toList)=none:=by
    revert h4
    cases xy (toks p.cps.toList) with
    | none=>intro _;rfl
    | some v=>intro z;cases z
   exact k
  ·rfl
theorem yU {m:Cs} (hm:m.all aG=true):m≠[59]:=fun e=>by rw [e] at hm;exact absurd hm (by decide +kernel)
theorem IF {m:Cs} (hm:m.all aG=true):m≠[44]:=fun e=>by rw [e] at hm;exact absurd hm (by decide +kernel)
theorem Fs {m:Cs} (hm:m.all aG=true):m≠[41]:=fun e=>by rw [e] at hm;exact absurd hm (by decide +kernel)
theorem Bm {m:Cs} (hm:m.all aG=true) (hs:aH m=false):iH ([eB]++[m])=true:=by
 have e:aN [59] ([eB]++[m]) [[]]=[[eB,m]]:=by
  show(if m=[59] then [[eB]]++[[]] else [[eB,m]])=_
  rw [if_neg (yU hm)]
 unfold iH
 rw [e]
 have e2:iG 0 [m]=none:=by
  show(uA 2 [m]).map Pt.fs=none
  have e3:gJ [m]=none:=by
   unfold gJ
   rw [if_neg]
   show ¬ aH m=true
   rw [hs]
   decide
  show(((gJ [m]).bind _).map Pt.fs)=none
  rw [e3]
  rfl
 have e6:cL 0 [[eB,m]]=none:=by
  show(match iG 0 [m] with|none=>none|some p=>_)=none
  rw [e2]
 rw [e6]
theorem Bn {m:Cs} (hm:m.all aG=true) (hs:aR m=false):iH ([bW,[107],[59],eC,[97],bI]++[m])=true:=by
 have e:aN [59] ([bW,[107],[59],eC,[97],bI]++[m]) [[]]=[[bW,[107]],[eC,[97],bI,m]]:=by
  show(if m=[59] then [[bW,[107]],[eC,[97],bI]]++[[]] else [[bW,[107]],[eC,[97],bI,m]])=_
  rw [if_neg (yU hm)]
 have e2:iG 2 [[97],bI,m]=none:=by
  show(iQ je (aN [44] [[97],bI,m] [[]])).map Pt.lk=none
  have e3:aN [44] [[97],bI,m] [[]]=[[[97],bI,m]]:=by
   show(if m=[44] then [[[97],bI]]++[[]] else [[[97],bI,m]])=_
   rw [if_neg (IF hm)]
  have e4:xu [[97],bI,m]=false:=by
   show(true && (aR [97] && aR m))=false
   rw [hs,YU,YU]
  have e5:je [[97],bI,m]=none:=by
   unfold je
   rw [e4]
   rfl
  rw [e3,qd (Wy.mpr rfl) e5]
  rfl
 unfold iH
 rw [e]
 have e6:cL 0 [[bW,[107]],[eC,[97],bI,m]]=none:=by
  show((match iG 2 [[97],bI,m] with|none=>none|some p=>_).map _)=none
  rw [e2]
  rfl
 rw [e6]
theorem DG {m:Cs} (hm:m.all aG=true):iH ([bW,[107],[59],iF,[107],[40]]++[m])=true:=by
 have e:aN [59] ([bW,[107],[59],iF,[107],[40]]++[m]) [[]]=[[bW,[107]],[iF,[107],[40],m]]:=by
  show(if m=[59] then [[bW,[107]],[iF,[107],[40]]]++[[]] else [[bW,[107]],[iF,[107],[40],m]])=_
  rw [if_neg (yU hm)]
 have e2:iG 3 [[107],[40],m]=none:=by
  have e3:gI [m]=none:=by
   unfold gI
   rw [if_neg (show ¬ [m].getD 0 []=[41] from Fs hm)]
   rfl
  have e4:gJ [[107],[40],m]=none:=by
   show(gI [m]).map _=none
   rw [e3]
   rfl
  show(((gJ [[107],[40],m]).bind _).map Pt.fs)=none
  rw [e4]
  rfl
 unfold iH
 rw [e]
 have e6:cL 0 [[bW,[107]],[iF,[107],[40],m]]=none:=by
  show((match iG 3 [[107],[40],m] with|none=>none|some p=>_).map _)=none
  rw [e2]
  rfl
 rw [e6]
abbrev Lg:Cs:=[97,98,99,100,101,102,103,104,105,106,107,108]
theorem DH {x:Cs} (h:x.all aG=true) (hl:x.length≤12):df (49::x)∧aH (49::x)=false:=by
 refine⟨⟨by rw [XJ,h];decide +kernel,by simp,by rw [WC];omega⟩,?_⟩
 unfold aH
 rw [show decide ((49::x).headD 0∈cX.cps.toList)=false from(by show decide (49∈cX.cps.toList)=false;decide +kernel),YU]
theorem AD {n:Cs} (N:df n) (hl:n.length≤12):df (n++Lg)∧aR (n++Lg)=false:=by
 have h1:1≤n.length:=by
  cases n with
  | nil=>exact absurd rfl N.ne
  | cons a r=>simp
 refine⟨⟨by rw [Xi,N.al];decide +kernel,by simp,by rw [Wq];show n.length+12≤24;omega⟩,?_⟩
 unfold aR
 rw [decide_eq_false (p:=(n++Lg).length≤12) (by rw [Wq];show ¬ n.length+12≤12;omega)]
 simp
theorem rp {n:Cs} (h:aR n=false):aH n=false:=by unfold aH;rw [h];rfl
theorem b7.twice {n:Str} (N:df n.cps.toList):b7 ((n++Wn " ")++n).cps.toList:=by
 rw [gL,show(Wn " ").cps.toList=[32] by decide +kernel]
 refine⟨Bl N.al N.ne,uD N _,by rw [Xi,Xi,tD N.al];decide,?_⟩
 have:=N.len
 rw [Wq,Wq,WL]
 omega
theorem b7.joined {n:Str} (N:df n.cps.toList):b7 ((Wn "passing"++n)++Wn " 1").cps.toList:=by
 rw [gL,show(Wn "passing").cps.toList=aW by decide +kernel,show(Wn " 1").cps.toList=[32,49] by decide +kernel]
 refine⟨by rw [← WK];exact yT N.al N.ne,gK (by decide) (by decide),by rw [Xi,Xi,tD N.al];decide,?_⟩
 have:=N.len
 rw [Wq,Wq]
 simp only [WC,Xv]
 omega
theorem b7.OU {a x b:Str} {A:Cs} (hx:x.cps.toList.all aG=true) (hl:x.cps.toList.length≤12) (ea:a.cps.toList=A++[49]) (h:(AB A b.cps.toList && (decide ((toks A).length=1) && decide ((toks A).getD 0 []≠aY)))=true):b7 ((a++x)++b).cps.toList:=by
 obtain⟨N,hs⟩:=DH hx hl
 simp only [WG,decide_eq_true_eq] at h
 obtain⟨h1,h2,h3⟩:=h
 rw [gL,ea,WK,show [49]++(x.cps.toList++b.cps.toList)=(49::x.cps.toList)++b.cps.toList from rfl]
 refine .Eu N h1 fun h6 h7=>?_
 cases e:toks A with
 | nil=>rw [e] at h2;cases h2
 | cons w r =>
  cases r with
  | nil=>rw [e] at h3;exact mV N.al N.ne hs h6 h7 e h3
  | cons w2 r2=>rw [e] at h2;simp at h2
theorem b7.OV {x b:Str} (hx:x.cps.toList.all aG=true) (hl:x.cps.toList.length≤12) (h:AB fq b.cps.toList=true):b7 ((Wn "rule 1"++x)++b).cps.toList:=by
 obtain⟨N,hs⟩:=DH hx hl
 rw [gL,show(Wn "rule 1").cps.toList=fq++[49] by decide +kernel,WK,show [49]++(x.cps.toList++b.cps.toList)=(49::x.cps.toList)++b.cps.toList from rfl]
 exact .Eu N h fun _ h7=>tw N.al N.ne hs h7
theorem b7.long {n:Str} (N:df n.cps.toList) (hl:n.cps.toList.length≤12):b7 ((Wn "passing "++n)++Wn "abcdefghijkl 1").cps.toList:=by
 obtain⟨M,hs⟩:=AD N hl
 rw [gL,show(Wn "abcdefghijkl 1").cps.toList=Lg++[32,49] by decide +kernel,← WK (as:=n.cps.toList)]
 exact .Eu M (by decide +kernel) fun h6 h7=>mV (w:=aW) M.al M.ne (rp hs) h6 h7 (by decide +kernel) (by decide)
theorem b7.Lh {n g:Str} (N:df n.cps.toList) (hl:n.cps.toList.length≤12) (G:df g.cps.toList) (gs:aH g.cps.toList=false):b7 (((Wn "rule "++n)++Wn ": take ")++g).cps.toList:=by
 rw [W8,gL,nW,WK,WK]
 exact .tail N hl G (by decide +kernel) (l:=[eB]) (by decide +kernel) (Bm G.al gs)
theorem b7.Li {n g:Str} (N:df n.cps.toList) (hl:n.cps.toList.length≤12) (G:df g.cps.toList) (gl:g.cps.toList.length≤12):b7 (((((Wn "rule "++n)++Wn ": keep k; ")++Wn "look a same ")++g)++Wn "abcdefghijkl").cps.toList:=by
 obtain⟨M,hs⟩:=AD G gl
 rw [W8,W8,W8,gL,nW,show(Wn "abcdefghijkl").cps.toList=Lg by decide +kernel]
 have z:=b7.tail N hl M (B:=(Wn ": keep k; ").cps.toList++(Wn "look a same ").cps.toList) (by decide +kernel) (l:=[bW,[107],[59],eC,[97],bI]) (by decide +kernel) (Bn M.al hs)
 simpa [WK] using z
theorem b7.OW {n g:Str} (N:df n.cps.toList) (hl:n.cps.toList.length≤12) (G:df g.cps.toList):b7 ((((Wn "rule "++n)++Wn ": keep k; ")++Wn "put k(")++g).cps.toList:=by
 rw [W8,W8,gL,nW]
 have z:=b7.tail N hl G (B:=(Wn ": keep k; ").cps.toList++(Wn "put k(").cps.toList) (by decide +kernel) (l:=[bW,[107],[59],iF,[107],[40]]) (by decide +kernel) (DG G.al)
 simpa [WK] using z
inductive cM:List V→Prop
 | nil:cM []
 | cons {x:Str} {vs:List V} (h:b7 x.cps.toList) (t:cM vs):cM (.str x::vs)
theorem cM.app {a b:List V} (h:cM a) (h2:cM b):cM (a++b):=by
 induction h with
 | nil=>exact h2
 | cons h t ih=>exact .cons h ih
theorem cM.mem {a:List V} (h:cM a) {v:V} (hv:v∈a):∃x:Str,v=.str x∧b7 x.cps.toList:=by
 induction h with
 | nil=>cases hv
 | cons h t ih =>
  rcases WS.mp hv with e|e
  ·exact⟨_,e,h⟩
  ·exact ih e
end Bk
namespace Bk
open PySem L2 bB
def fN:List Pr:=[⟨1,[[107]],.fs [⟨[107],[]⟩]⟩]
theorem Bo {t:Str} (T:df t.cps.toList) (hs:aH t.cps.toList=true):bc ((Wn "rule "++t)++Wn ": keep k").cps.toList=some (.rule t.cps.toList fN):=by
 rw [gL,nW,dz (by decide) T.al T.ne (by decide +kernel),if_pos (by decide +kernel),show toks (Wn ": keep k").cps.toList=[[58],bW,[107]] by decide +kernel]
 show(if aY=aY then (dG [aY,t.cps.toList,[58],bW,[107]]).map (fun q=>It.rule q.1 q.2) else _)=_
 rw [if_pos rfl]
 unfold dG
 rw [if_pos ⟨rfl,hs,rfl⟩]
 rfl
theorem Bp {a t b:Str} {w:Cs} {k:Nat} (T:df t.cps.toList) (hs:aH t.cps.toList=true) (ha:a.cps.toList=w++[32]) (hw:w=aW∨w=aP) (hb:b.cps.toList=[32,48+k]) (hk:k≤4):bc ((a++t)++b).cps.toList=some (.kind ⟨t.cps.toList,k,decide (w=aP)⟩):=by
 have e1:aG ((w++[32]).getLastD 32)=false∧(w++[32]).all (gP cj)=true∧toks (w++[32])=[w]∧w≠aY:=by rcases hw with e|e <;> subst e <;> decide +kernel
 have e2:aG (([32,48+k]:Cs).headD 32)=false∧([32,48+k]:Cs).all (gP cj)=true∧toks [32,48+k]=[[48+k]]:=by
  rcases(by omega:k=0∨k=1∨k=2∨k=3∨k=4) with e|e|e|e|e <;> subst e <;> decide +kernel
 rw [gL,ha,hb,dz e1.1 T.al T.ne e2.1,if_pos (by rw [e1.2.1,e2.2.1];rfl),e1.2.2.1,e2.2.2]
 show(if w=aY then _ else (cH [w,t.cps.toList,[48+k]]).map It.kind)=_
 rw [if_neg e1.2.2.2]
 unfold cH
 have oV:[48+k]∈([[48],[49],[50],[51],[52]]:List Cs):=by rcases(by omega:k=0∨k=1∨k=2∨k=3∨k=4) with e|e|e|e|e <;> subst e <;> decide
 rw [if_pos ⟨⟨rfl,hw⟩,hs,oV⟩]
 show some (It.kind ⟨t.cps.toList,(48+k) - 48,_⟩)=_
 rw [Nat.add_sub_cancel_left]
 rfl
structure Ln (p:Cs):Prop where
 ok:p.all Fq=true
 len:p.length≤120
 rl:∀t L,bc p=some (.rule t L)→L=fN
theorem b7.ln {p:Cs} (h:b7 p):Ln p:=⟨h.ok,h.len,fun t L e=>by rw [h.none] at e;cases e⟩
theorem AE {a t b:Str} (T:df t.cps.toList) (h:(AB a.cps.toList b.cps.toList)=true) (hr:∀s L,bc ((a++t)++b).cps.toList=some (.rule s L)→L=fN):Ln ((a++t)++b).cps.toList∧told ((a++t)++b).cps.toList=true:=by
 unfold AB at h
 simp only [WG,decide_eq_true_eq,Yd] at h
 obtain⟨h1,h2,h3,h4,h5,h6,h7⟩:=h
 refine⟨⟨by rw [gL,Xi,Xi,h1,h2,tD T.al];rfl,by rw [gL,Wq,Wq];have:=T.len;omega,hr⟩,?_⟩
 rw [gL]
 cases e:a.cps.toList with
 | nil=>exact uD T _
 | cons c r=>rw [e] at h4 h5;exact gK h4 h5
theorem qg (p:Cs) (r:List Cs) (ks:List Kd) (rs:List Rl):bN (p::r) ks rs=match bc p with
  | none=>.bad
  | some (.kind k)=>if k.n∈ks.map (·.n) then .twice else bN r (ks++[k]) rs
  | some (.rule t L)=>if t∈rs.map (·.title) then .twice else bN r ks (rs++[jb t L]):=rfl
theorem mW:∀(a b:List Cs) (ks:List Kd) (rs:List Rl),bN (a++b) ks rs=match bN a ks rs with|.ok OX Rw=>bN b OX Rw|.bad=>.bad|.twice=>.twice
 | [],b,ks,rs=>rfl
 | p::a,b,ks,rs=>by
  rw [ZP,qg,qg]
  cases bc p with
  | none=>rfl
  | some it =>
   cases it with
   | kind k =>
    dsimp only
    split
    ·rfl
    ·exact mW a b _ _
   | rule t L =>
    dsimp only
    split
    ·rfl
    ·exact mW a b _ _
abbrev allR (ls:List Cs):Rd:=bN (ls.filter told) [] []
def Res (ls t0 t1:List Cs):List Nat→Prop
 | []=>∃ks,allR ls=.ok ks (t1.map fun t=>jb t fN)∧ks.map (·.n)=[107]::t0∧(⟨[107],0,true⟩:Kd)∈ks
 | f::_=>(f=1∧allR ls=.bad)∨(f=2∧allR ls=.twice)
theorem kC {ls:List Cs} {p:Cs} (h:told p=false):allR (ls++[p])=allR ls:=by
 unfold allR
 rw [Yq,Y4,h]
 simp
theorem dN {ls:List Cs} {p:Cs} (h:told p=true):allR (ls++[p])=match allR ls with|.ok ks rs=>bN [p] ks rs|.bad=>.bad|.twice=>.twice:=by
 unfold allR
 rw [Yq,Y4,if_pos h,List.filter_nil,mW]
theorem Res.Bq {ls t0 t1 Br Bs:List Cs} {f:Nat} {fs fs':List Nat} {p:Cs} (h:Res ls t0 t1 (f::fs)):Res (ls++[p]) Br Bs (f::fs'):=by
 cases ht:told p with
 | false =>
  rcases h with⟨e,h⟩|⟨e,h⟩
  ·exact .inl ⟨e,by rw [kC ht];exact h⟩
  ·exact .inr ⟨e,by rw [kC ht];exact h⟩
 | true =>
  rcases h with⟨e,h⟩|⟨e,h⟩
  ·exact .inl ⟨e,by rw [dN ht,h]⟩
  ·exact .inr ⟨e,by rw [dN ht,h]⟩
theorem Res.blank {ls t0 t1:List Cs} {fs:List Nat} {p:Cs} (h:Res ls t0 t1 fs) (ht:told p=false):Res (ls++[p]) t0 t1 fs:=by
 cases fs with
 | nil =>
  obtain⟨ks,h1,h2⟩:=h
  exact⟨ks,by rw [kC ht];exact h1,h2⟩
 | cons f fs=>exact h.Bq
theorem Res.bad {ls t0 t1:List Cs} {fs:List Nat} {p:Cs} (h:Res ls t0 t1 fs) (ht:told p=true) (hl:bc p=none):Res (ls++[p]) t0 t1 (fs++[1]):=by
 cases fs with
 | nil =>
  obtain⟨ks,h1,h2⟩:=h
  refine .inl ⟨rfl,?_⟩
  rw [dN ht,h1]
  show bN [p] _ _=_
  unfold bN
  rw [hl]
 | cons f fs=>exact h.Bq
theorem Res.IG {ls t0 t1:List Cs} {fs:List Nat} {p:Cs} {k:Kd} (h:Res ls t0 t1 fs) (ht:told p=true) (hl:bc p=some (.kind k)) (hk:k.n∈t0):Res (ls++[p]) t0 t1 (fs++[2]):=by
 cases fs with
 | nil =>
  obtain⟨ks,h1,h2,h3⟩:=h
  refine .inr ⟨rfl,?_⟩
  rw [dN ht,h1]
  show bN [p] _ _=_
  unfold bN
  rw [hl]
  exact if_pos (by rw [h2];exact Ww _ hk)
 | cons f fs=>exact h.Bq
theorem mX (t1:List Cs):(t1.map fun t=>jb t fN).map (·.title)=t1:=by
 rw [XT]
 exact aaw t1
theorem Res.IH {ls t0 t1:List Cs} {fs:List Nat} {p t:Cs} (h:Res ls t0 t1 fs) (ht:told p=true) (hl:bc p=some (.rule t fN)) (hk:t∈t1):Res (ls++[p]) t0 t1 (fs++[2]):=by
 cases fs with
 | nil =>
  obtain⟨ks,h1,h2,h3⟩:=h
  refine .inr ⟨rfl,?_⟩
  rw [dN ht,h1]
  show bN [p] _ _=_
  unfold bN
  rw [hl]
  exact if_pos (by rw [mX];exact hk)
 | cons f fs=>exact h.Bq
theorem Res.kind {ls t0 t1:List Cs} {fs:List Nat} {p:Cs} {k:Kd} (h:Res ls t0 t1 fs) (ht:told p=true) (hl:bc p=some (.kind k)) (hk:k.n∉[107]::t0):Res (ls++[p]) (t0++[k.n]) t1 fs:=by
 cases fs with
 | nil =>
  obtain⟨ks,h1,h2,h3⟩:=h
  refine⟨ks++[k],?_,by rw [WQ,h2];rfl,Xx _ h3⟩
  rw [dN ht,h1]
  show bN [p] _ _=_
  unfold bN
  rw [hl]
  exact if_neg (by rw [h2];exact hk)
 | cons f fs=>exact h.Bq
theorem Res.rule {ls t0 t1:List Cs} {fs:List Nat} {p t:Cs} (h:Res ls t0 t1 fs) (ht:told p=true) (hl:bc p=some (.rule t fN)) (hk:t∉t1):Res (ls++[p]) t0 (t1++[t]) fs:=by
 cases fs with
 | nil =>
  obtain⟨ks,h1,h2,h3⟩:=h
  refine⟨ks,?_,h2,h3⟩
  rw [dN ht,h1,WQ]
  show bN [p] _ _=_
  unfold bN
  rw [hl]
  exact if_neg (by rw [mX];exact hk)
 | cons f fs=>exact h.Bq
theorem Res.start:Res [(Wn "lasting k 0").cps.toList] [] [] []:=by
 refine⟨[⟨[107],0,true⟩],?_,rfl,by simp⟩
 have e:bc (Wn "lasting k 0").cps.toList=some (.kind ⟨[107],0,true⟩):=by
  unfold bc
  rw [if_pos (by decide +kernel),show toks (Wn "lasting k 0").cps.toList=[aP,[107],[48]] by decide +kernel]
  rfl
 have e2:[(Wn "lasting k 0").cps.toList].filter told=[(Wn "lasting k 0").cps.toList]:=by
  rw [Y4,if_pos (by decide +kernel),List.filter_nil]
 unfold allR
 rw [e2]
 unfold bN
 rw [e]
 rfl
theorem Ln.start:Ln (Wn "lasting k 0").cps.toList:=⟨by decide +kernel,by decide +kernel,fun t L e=>by
 unfold bc at e
 rw [if_pos (by decide +kernel),show toks (Wn "lasting k 0").cps.toList=[aP,[107],[48]] by decide +kernel] at e
 cases e⟩
theorem DI:∀x∈fN,x.n<5∧jS x.n x.ps x.p:=by
 intro x hx
 rw [Wy.mp hx]
 exact⟨by decide,.fs (.inr (.inl rfl)) (.one (.bare (by decide +kernel)))⟩
theorem AF (t:Cs):jb t fN=⟨t,[],[⟨[107],[]⟩],[],[],[]⟩:=rfl
theorem DJ {ls:List Cs} (h0:ls≠[]) (hl:∀l∈ls,Ln l) (hn:ls.length≤70):Az ls:=by
 have ok:∀l∈ls,∀c∈l,c≠10∧c<128:=fun l hm c hc=>of_decide_eq_true (Xa.mp (hl l hm).ok c hc)
 refine⟨h0,fun l hm z=>(ok l hm 10 z).1 rfl,?_,fun l hm c hc=>Nat.lt_trans (ok l hm c hc).2 (by decide),by omega,fun l _ ht _=>DB ht,fun l hm t L e=>?_⟩
 ·have:=xh ls 120 fun l hm=>(hl l hm).len
  have:ls.length * (120+1)≤70 * 121:=Nat.mul_le_mul hn (Wz _)
  omega
 ·rw [(hl l hm).rl t L e]
  refine⟨DI,?_⟩
  rw [AF]
  refine⟨fun f hf=>?_,Y2 rfl,Y2 rfl⟩
  have hf':f=⟨[107],[]⟩:=by simpa using hf
  rw [hf']
  exact⟨by decide +kernel,by decide,fun a ha=>nomatch ha⟩
theorem Bt {ks:List Kd} (h:(⟨[107],0,true⟩:Kd)∈ks) (t1:List Cs):∀r∈t1.map (fun t=>jb t fN),pY ks r:=by
 intro r hr
 obtain⟨t,_,rfl⟩:=Xu.mp hr
 rw [AF]
 refine⟨fun f hf=>?_,(fun f hf=>nomatch hf),(fun _ f hf=>nomatch hf),(fun a ha=>nomatch (show a∈([]:List Cs) from ha)),(fun a ha=>nomatch (show a∈([]:List Cs) from ha)),Xs _,Y2 rfl⟩
 have hf':f=⟨[107],[]⟩:=by simpa using hf
 rw [hf']
 exact⟨_,h,rfl,rfl⟩
theorem Bu (x:Str) (lo hi:Option Int):(XM x lo hi).length≤x.length∧∀d∈(XM x lo hi).cps.toList,d∈x.cps.toList:=by
 refine⟨Txt.slice_le x lo hi,fun d hd=>?_⟩
 unfold XM at hd
 split at hd
 ·exact hd
 ·have hd:d∈(Ys lo hi 1 x.length).filterMap (x.cps[·]?):=by simpa using hd
  obtain⟨i,_,e⟩:=YG.mp hd
  obtain⟨h1,h2⟩:=X5.mp e
  rw [← h2]
  exact aaf.mpr (Array.getElem_mem h1)
structure NG (n g:Str):Prop where
 a:df n.cps.toList
 al:n.cps.toList.length≤12
 b:df g.cps.toList
 bl:g.cps.toList.length≤12
 bs:aH g.cps.toList=false
theorem NG.an {n g:Str} (N:NG n g):n.length≤100:=W5 (by rw [← ej];exact N.al) (by decide)
theorem NG.bn {n g:Str} (N:NG n g):g.length≤100:=W5 (by rw [← ej];exact N.bl) (by decide)
theorem lr {a:Str}:a.length≤a.length:=Wz _
theorem bR {a b:Str} {k m:Nat} (h:a.length≤k) (h2:b.length≤m) (h3:k+m≤5000:=by decide +kernel):a.length+b.length≤Wt:=W5 (W5 (Nat.add_le_add h h2) h3) (by decide)
theorem kE {a b:Str} {k m:Nat} (h:a.length≤k) (h2:b.length≤m):(a++b).length≤k+m:=by rw [strLen_append];omega
theorem NG.x {n g:Str} (N:NG n g) (lo hi:Option Int):(XM n lo hi).cps.toList.all aG=true∧(XM n lo hi).cps.toList.length≤12∧(XM n lo hi).length≤100:=by
 obtain⟨h1,h2⟩:=Bu n lo hi
 have z:=N.al
 rw [ej] at z
 refine⟨Xa.mpr fun c hc=>Xa.mp N.a.al c (h2 c hc),by rw [ej];omega,by omega⟩
def mY (m:Nat):Sp:=fun vs H Q _=>∃n g:Str,vs=[.str n,.str g]∧NG n g∧∀(l:WA) (us:List V) (H':Hp),aj H H'→H l=none→H' l=some (.lst us)→cM us→us.length=m→Q (.ref l) H'
end Bk
namespace Bk
open PySem L2 bB
def AG:Sp:=fun vs H Q _=>∃(n g:Str) (i:Int),vs=[.str n,.str g,.int i]∧NG n g∧∀(x:Str) (H':Hp),aj H H'→b7 x.cps.toList→Q (.str x) H'
structure M6 (TS:List Cs):Prop where
 len:TS.length=8
 sm:∀t∈TS,aH t=true
 nd:TS.Nodup
 nk:[107]∉TS
structure Tl (TS t0 t1:List Cs):Prop where
 a:t0=TS.take t0.length
 b:t1=TS.reverse.take t1.length
 al:t0.length≤5
 bl:t1.length≤6
inductive Step (TS t0 t1:List Cs) (p:Cs):Nat→List Cs→List Cs→Prop
 | tk {k:Kd} (ht:told p=true) (hl:bc p=some (.kind k)) (hk:k.n∈t0):Step TS t0 t1 p 2 t0 t1
 | tr {t:Cs} (ht:told p=true) (hl:bc p=some (.rule t fN)) (hk:t∈t1):Step TS t0 t1 p 2 t0 t1
 | bad (ht:told p=true) (hl:bc p=none):Step TS t0 t1 p 1 t0 t1
 | no (ht:told p=false):Step TS t0 t1 p 0 t0 t1
 | kind {k:Kd} (ht:told p=true) (hl:bc p=some (.kind k)) (hk:k.n∉[107]::t0):Step TS t0 t1 p 0 (t0++[k.n]) t1
 | rule {t:Cs} (ht:told p=true) (hl:bc p=some (.rule t fN)) (hk:t∉t1):Step TS t0 t1 p 0 t0 (t1++[t])
theorem Step.res {TS ls t0 t1 Br Bs:List Cs} {fs:List Nat} {p:Cs} {fl:Nat} (h:Step TS t0 t1 p fl Br Bs) (r:Res ls t0 t1 fs):Res (ls++[p]) Br Bs (if fl=0 then fs else fs++[fl]):=by
 cases h with
 | tk ht hl hk=>exact r.IG ht hl hk
 | tr ht hl hk=>exact r.IH ht hl hk
 | bad ht hl=>exact r.bad ht hl
 | no ht=>exact r.blank ht
 | kind ht hl hk=>exact r.kind ht hl hk
 | rule ht hl hk=>exact r.rule ht hl hk
structure Rx (g:Str):Prop where
 b:df g.cps.toList
 bl:g.cps.toList.length≤12
 bs:aH g.cps.toList=false
theorem GL {t:Cs} (h:aR t=true):df t∧t.length≤12:=by
 unfold aR at h
 simp only [WG,decide_eq_true_eq] at h
 exact⟨⟨h.2.2,fun e=>by rw [e] at h;exact absurd h.1 (by decide),by omega⟩,h.2.1⟩
theorem cZ {t:Cs} (h:aH t=true):df t∧t.length≤12:=by
 unfold aH at h
 rw [WG] at h
 exact GL h.1
theorem Tl.k {TS t0 t1:List Cs} (h:Tl TS t0 t1) (T:M6 TS) (h5:t0.length<5):∃t,TS[t0.length]?=some t∧Tl TS (t0++[t]) t1∧t∉[107]::t0∧aH t=true:=by
 have hl:t0.length<TS.length:=by rw [T.len];omega
 refine⟨TS[t0.length],Ge9 hl,⟨?_,h.b,by rw [Wq,WL];omega,h.bl⟩,fun z=>?_,T.sm _ (WT hl)⟩
 ·rw [Wq,WL,WB hl,← h.a]
 ·rcases WS.mp z with e|e
  ·exact T.nk (by rw [← e];exact WT hl)
  ·have e:TS[t0.length]∈TS.take t0.length:=by rw [← h.a];exact e
   have nd:=T.nd
   rw [← X7 t0.length TS,Ye] at nd
   exact nd.2.2 _ e _ (by rw [XD hl];exact WY ..) rfl
theorem Tl.r {TS t0 t1:List Cs} (h:Tl TS t0 t1) (T:M6 TS) (h5:t1.length<6):∃t,TS[7 - t1.length]?=some t∧Tl TS t0 (t1++[t])∧t∉t1∧aH t=true:=by
 have hl:t1.length<TS.reverse.length:=by rw [List.length_reverse,T.len];omega
 have e7:TS[7 - t1.length]?=some TS.reverse[t1.length]:=by
  have e8:TS.length - 1 - t1.length=7 - t1.length:=by rw [T.len]
  rw [List.getElem_reverse,← Ge9,e8]
 refine⟨TS.reverse[t1.length],e7,⟨h.a,?_,h.al,by rw [Wq,WL];omega⟩,fun e=>?_,T.sm _ (List.mem_reverse.mp (WT hl))⟩
 ·rw [Wq,WL,WB hl,← h.b]
 ·have e:TS.reverse[t1.length]∈TS.reverse.take t1.length:=by rw [← h.b];exact e
  have nd:TS.reverse.Nodup:=List.pairwise_reverse.mpr (T.nd.imp fun h=>h.symm)
  rw [← X7 t1.length TS.reverse,Ye] at nd
  exact nd.2.2 _ e _ (by rw [XD hl];exact WY ..) rfl
def xB:Sp:=fun vs H Q _=>∃(lt fh l0 l1:WA) (TS t0 t1:List Cs) (g:Str) (w nm:Int),vs=[.ref lt,.str g,.int w,.ref fh,.int nm]∧H lt=some (.lst (TS.map tx))∧M6 TS∧Rx g∧0≤nm∧H fh=some (.lst [.ref l0,.ref l1])∧l0≠l1∧lt≠l0∧lt≠l1∧fh≠l0∧fh≠l1∧H l0=some (.lst (t0.map tx))∧H l1=some (.lst (t1.map tx))∧Tl TS t0 t1 ∧
 ∀(l:WA) (x:Str) (fl:Nat) (Br Bs:List Cs) (H':Hp),(∀b o,b≠l0→b≠l1→H b=some o→H' b=some o)→H l=none→H' l=some (.lst [.str x,.int fl])→H' l0=some (.lst (Br.map tx))→H' l1=some (.lst (Bs.map tx))→Step TS t0 t1 x.cps.toList fl Br Bs→Tl TS Br Bs→Ln x.cps.toList→Q (.ref l) H'
end Bk
namespace Bk
open PySem L2 bB
theorem xC {a b:Str} {t w:Cs} {k:Nat} (hs:aH t=true) (ha:a.cps.toList=w++[32]) (hw:w=aW∨w=aP) (hb:b.cps.toList=[32,48+k]) (hk:k≤4):Ln ((a++S t)++b).cps.toList∧told ((a++S t)++b).cps.toList=true∧bc ((a++S t)++b).cps.toList=some (.kind ⟨t,k,decide (w=aP)⟩):=by
 have e:=Bp (t:=S t) (cZ hs).1 hs ha hw hb hk
 have z:=AE (a:=a) (t:=S t) (b:=b) (cZ hs).1 (by rw [ha,hb];rcases hw with e|e <;> subst e <;> rcases(by omega:k=0∨k=1∨k=2∨k=3∨k=4) with e|e|e|e|e <;> subst e <;> decide +kernel) fun s L el=>by rw [e] at el;cases el
 exact⟨z.1,z.2,e⟩
theorem Bv {a b b2:Str} {t w:Cs} {k:Nat} (hs:aH t=true) (ha:a.cps.toList=w++[32]) (hw:w=aW∨w=aP) (hb:b.cps.toList++b2.cps.toList=[32,48+k]) (hk:k≤4):Ln (((a++S t)++b)++b2).cps.toList∧told (((a++S t)++b)++b2).cps.toList=true∧bc (((a++S t)++b)++b2).cps.toList=some (.kind ⟨t,k,decide (w=aP)⟩):=by
 have e:(((a++S t)++b)++b2).cps.toList=((a++S t)++(S [32,48+k])).cps.toList:=by
  rw [W8,gL,gL,← hb]
  simp
 rw [e]
 exact xC hs ha hw rfl hk
theorem xD {t:Cs} (hs:aH t=true):Ln ((Wn "rule "++S t)++Wn ": keep k").cps.toList∧told ((Wn "rule "++S t)++Wn ": keep k").cps.toList=true∧bc ((Wn "rule "++S t)++Wn ": keep k").cps.toList=some (.rule t fN):=by
 have e:=Bo (t:=S t) (cZ hs).1 hs
 have z:=AE (a:=Wn "rule ") (t:=S t) (b:=Wn ": keep k") (cZ hs).1 (by decide +kernel) fun s L el=>by rw [e] at el;cases el;rfl
 exact⟨z.1,z.2,e⟩
theorem pd {p:Cs} (h:(p.all Fq && (decide (p.length≤120) && !(told p)))=true) (e:bc p=none):Ln p∧told p=false:=by
 simp only [WG,decide_eq_true_eq,Yd] at h
 exact⟨⟨h.1,h.2.1,fun t L z=>by rw [e] at z;cases z⟩,h.2.2⟩
theorem blankLine {k:Int} (h0:0≤k) (h4:k<4):Ln (XM (Wn "  #") none (some k)).cps.toList∧told (XM (Wn "  #") none (some k)).cps.toList=false:=by
 rcases(by omega:k=0∨k=1∨k=2∨k=3) with e|e|e|e <;> subst e
 ·rw [show(XM (Wn "  #") none (some 0)).cps.toList=[] by decide +kernel]
  exact pd (by decide) rfl
 ·rw [show(XM (Wn "  #") none (some 1)).cps.toList=[32] by decide +kernel]
  exact pd (by decide) rfl
 ·rw [show(XM (Wn "  #") none (some 2)).cps.toList=[32,32] by decide +kernel]
  exact pd (by decide) rfl
 ·rw [show(XM (Wn "  #") none (some 3)).cps.toList=[32,32,35] by decide +kernel]
  exact pd (by decide) (by unfold bc;rw [if_neg (by decide +kernel)])
end Bk
namespace Bk
open PySem L2 bB
theorem Bw (i:Int):∃(a:Str) (w:Cs),wx [V.str (Wn "passing "),V.str (Wn "lasting ")] (i % 2)=some (.str a)∧a.cps.toList=w++[32]∧(w=aW∨w=aP)∧a.length≤8:=by
 have hm:=mid (a:=i) (b:=2) (by decide)
 rcases(by omega:i % 2=0∨i % 2=1) with e|e <;> rw [e]
 ·exact⟨Wn "passing ",aW,rfl,by decide +kernel,.inl rfl,by decide +kernel⟩
 ·exact⟨Wn "lasting ",aP,rfl,by decide +kernel,.inr rfl,by decide +kernel⟩
end Bk
namespace Bk
open PySem L2 bB
def tE (K:Wo) (c:Cl):Sp:=fun vs H Q _=>∃ls:List Cs,vs=[tx (b6 ls)]∧Az ls∧(∀ks rs,allR ls=.ok ks rs→∀r∈rs,pY ks r) ∧
 ∀(t lf:WA) (v:V) (H':Hp),aj H H'→H' t=some (.tup [v,.ref lf])→(allR ls=.bad→H' lf=some (.lst [.bl true,.bl false,.bl true,.bl false]))→(allR ls=.twice→H' lf=some (.lst [.bl false,.bl true,.bl true,.bl false]))→(∀ks rs,allR ls=.ok ks rs→H' lf=some (.lst [])∧∃H0,wL K c H0 H' ks rs v)→Q (.ref t) H'
end Bk
namespace Bk
open PySem L2 bB
theorem II {zs:List Cs} (hl:zs.length=9) (hg:∀z∈zs,Good cX.cps.toList z) (nd:zs.Nodup):M6 ((zs.filter fun z=>decide (z≠[107])).take 8):=by
 have h8:8≤(zs.filter fun z=>decide (z≠[107])).length:=by
  have e:(zs.filter fun z=>decide (z≠[107]))=zs.erase [107]:=by
   rw [nd.erase_eq_filter]
   congr 1
   funext z
   by_cases h:z=[107]
   ·subst h;rfl
   ·rw [decide_eq_true h];simpa using h
  rw [e,List.length_erase]
  split <;> omega
 refine⟨by rw [WV];omega,fun t ht=>?_,(nd.filter _).sublist (List.take_sublist _ _),fun h=>?_⟩
 ·have z:=hg t (YF.mp (Xz ht)).1
  unfold aH
  rw [z.1,decide_eq_true z.2]
  rfl
 ·have z:=(YF.mp (Xz h)).2
  exact absurd rfl (of_decide_eq_true z)
theorem IJ {g:Cs} (h:Good dJ.cps.toList g):Rx (S g):=by
 obtain⟨h1,h2⟩:=GL h.1
 refine⟨h1,h2,?_⟩
 show aH g=false
 unfold aH
 rw [h.1,YR]
 refine decide_eq_false fun z=>?_
 have k:∀c∈dJ.cps.toList,c∉cX.cps.toList:=by decide +kernel
 exact k _ h.2 z
end Bk
namespace iR
open PySem L2 bB Bk
set_option maxHeartbeats 4000000
def top (i:Nat):Stmt:=PySem.Challenge.pw_poolrules_k12_lines_refused.main.body.getD i (.Pass ⟨0,0,0,0⟩)
abbrev eG:Stmt:=top 15
abbrev mZ:Stmt:=top 16
abbrev kJ:Stmt:=top 17
abbrev ft:Stmt:=top 18
abbrev fA:Stmt:=top 19
abbrev qh:Stmt:=top 20
abbrev kL:Stmt:=top 21
abbrev kO:Stmt:=top 22
abbrev m3:Stmt:=top 23
abbrev fB:Stmt:=top 24
abbrev fV:Stmt:=top 26
abbrev fW:Stmt:=top 27
abbrev jg:Stmt:=inClass (top 29) 0
abbrev g8:Stmt:=top 38
abbrev m4:Stmt:=top 39
abbrev fX:Stmt:=top 40
abbrev jh:Stmt:=top 41
abbrev ji:Stmt:=top 42
abbrev jj:Stmt:=top 43
abbrev g9:Stmt:=top 44
abbrev jk:Stmt:=top 45
abbrev hV:Stmt:=top 46
abbrev jl:Stmt:=top 47
abbrev dA:Stmt:=top 48
abbrev qi:Stmt:=top 49
abbrev jm:Stmt:=inClass (top 51) 0
abbrev hW:Stmt:=inClass (top 51) 1
abbrev jn:Stmt:=inClass (top 52) 0
abbrev ia:Stmt:=top 53
abbrev jo:Stmt:=top 54
abbrev jq:Stmt:=top 55
abbrev ib:Stmt:=top 56
abbrev ie:Stmt:=top 57
abbrev fY:Stmt:=top 58
abbrev ig:Stmt:=top 59
abbrev fC:Stmt:=top 61
abbrev kU:Stmt:=top 62
abbrev ij:Stmt:=top 63
abbrev fZ:Stmt:=top 64
abbrev ik:Stmt:=top 65
abbrev eI:Stmt:=top 67
abbrev dO:Stmt:=top 68
abbrev eJ:Stmt:=top 69
abbrev kW:Stmt:=top 70
abbrev jr:Stmt:=top 71
abbrev il:Stmt:=top 72
abbrev lS:Stmt:=top 73
section
variable {P:WM} {w:Xj} {K:Wo} {mg:Str→Option Wr} {base:Heap} {f:WA} {fd:Xk} {c:Cl}
theorem oB:aC ["sign"] ["sign"] (av ft):=⟨rfl,rfl,rfl,by decide +kernel,rfl,by decide +kernel,by decide +kernel⟩
theorem oE {u1 u2 u3:Wr} (F:du K "is_name_sign" "is_name_sign" ft f fd) (uE:mg "SMALL"=some u1) (uF:RelV (.str cX) u1) (uG:mg "GREAT"=some u2) (uH:RelV (.str dJ) u2) (Bx:mg "FIGURES"=some u3) (By:RelV (.str Ff) u3) :
  aU P w K mg base fK 1 f fd ["sign"] yI:=by
 refine F.ok oB (fun vs H Q E h=>?_) (fun cE A outer s H vs Q E hr h=>?_)
 ·obtain⟨c,rfl,_⟩:=h
  rfl
 obtain⟨c,rfl,q⟩:=h
 refine⟨_,(ao (aF (zK (cN fe (pv 0) (bO rfl uE uF) (by with_unfolding_all rfl)) (zK (cN fe (pv 0) (bO rfl uG uH) (by with_unfolding_all rfl)) (my (cN fe (pv 0) (bO rfl Bx By) (by with_unfolding_all rfl))))))),?_⟩
 refine⟨_,rfl,_,_,rfl,rfl,_,rfl,?_⟩
 rw [Yf]
 refine iN (fun z=>?_) (fun z=>?_)
 ·have e:aG c=true:=by unfold aG;rw [z];rfl
  rw [e] at q
  exact q
 refine⟨_,rfl,_,_,rfl,rfl,_,rfl,?_⟩
 rw [Yf]
 have z':decide (c∈cX.cps.toList)=false:=by simpa using z
 refine iN (fun y=>?_) (fun y=>?_)
 ·have e:aG c=true:=by unfold aG;rw [y];simp
  rw [e] at q
  exact q
 have y':decide (c∈dJ.cps.toList)=false:=by simpa using y
 refine⟨_,rfl,_,_,rfl,rfl,?_⟩
 rw [Yf]
 have e:aG c=decide (c∈Ff.cps.toList):=by unfold aG;rw [z',y'];rfl
 rw [e] at q
 exact q
theorem yV:aC ["text"] ["text"] (av mZ):=⟨rfl,rfl,rfl,by decide +kernel,rfl,by decide +kernel,by decide +kernel⟩
theorem yW {u1:Wr} (F:du K "is_name" "is_name" mZ f fd) (cu:gD P w K mg base "is_name_sign" 1 ["sign"] yI)
  (bo:mg "len"=none) (Lj:mg "all"=none) (Bz:mg "LONGEST"=some u1) (BA:RelV (.int 12) u1):aU P w K mg base fK 2 f fd ["text"] (wO eU):=by
 refine F.ok yV (fun vs H Q E h=>?_) (fun cE A outer s H vs Q E hr h=>?_)
 ·obtain⟨c,rfl,_⟩:=h
  rfl
 obtain⟨x,rfl,hx,q⟩:=h
 refine⟨_,(ao (aF (tW (Cv Gn Gn ak (aJ dq rfl bo W0 (aa (pv 0) ag)) (bO rfl Bz BA)) (my (aJ CN rfl Lj PyProof.Rows.boot_all (aa (dc [] rfl (by kernel_rfl) (HK (pv 0)) (fun _ _ _ _ _=>cT) (fun _ _ _ _ _=>(ax cu (hr.mono (by decide)) rfl (aa (pv 0) ag)))) ag)))))),?_⟩
 refine⟨_,rfl,x,rfl,sz (by omega),_,_,rfl,rfl,_,rfl,?_⟩
 refine iN (fun c1=>?_) (fun c1=>?_)
 ·refine⟨_,_,rfl,rfl,_,rfl,?_⟩
  refine iN (fun c2=>?_) (fun c2=>?_)
  ·refine⟨_,rfl,x,rfl,fun D hD=>?_⟩
   refine CM (x:=x) (lu (show x.cps.size≤100000 by have z:x.cps.size≤20000:=hx;omega)) (fun i ys H'=>aj H H'∧H' D=some (.lst ys)∧ys=((x.cps.toList.take i).map aG).map V.bl) ⟨ai hD _,ae,rfl⟩ (fun i ys H' p=>⟨p.2.1,?_⟩) (fun i ys H' hi p=>?_) (fun ys H' p=>?_)
   ·rw [p.2.2]
    simp
    omega
   ·refine⟨_,rfl,_,rfl,p.2.1,?_⟩
    refine⟨fun b o e=>?_,ae,?_⟩
    ·rw [aw (au e hD)]
     exact p.1 b o e
    ·rw [p.2.2]
     have hi':i<x.cps.toList.length:=by simpa using hi
     rw [WB hi']
     simp [Zb,hi]
   ·refine⟨D,(x.cps.toList.map aG),rfl,rfl,.inl (.inl ?_),?_⟩
    ·rw [p.2.1,p.2.2,XA (by simp)]
    ·have e:eU x=(x.cps.toList.map aG).all id:=by
      unfold eU
      rw [c1,c2]
      simp [aaL,Function.comp_def]
     have q':=q H' p.1
     rw [e] at q'
     exact q'
  ·have e:eU x=false:=by
    unfold eU
    have Ll:decide ((x.length:Int)≤12)=false:=by simpa using c2
    rw [Ll]
    simp
   have q':=q H (aj.refl H)
   rw [e] at q'
   exact q'
 ·have e:eU x=false:=by
   unfold eU
   have Ul:decide ((1:Int)≤x.length)=false:=by simpa using c1
   rw [Ul]
   simp
  have q':=q H (aj.refl H)
  rw [e] at q'
  exact⟨_,rfl,a7 q'⟩
theorem m5:aC ["text"] ["text"] (av eG):=⟨rfl,rfl,rfl,by decide +kernel,rfl,by decide +kernel,by decide +kernel⟩
theorem m6 {u1:Wr} (F:du K "is_small_word" "is_small_word" eG f fd) (cJ:gD P w K mg base "is_name" 2 ["text"] (wO eU))
  (uE:mg "SMALL"=some u1) (uF:RelV (.str cX) u1):aU P w K mg base fK 3 f fd ["text"] (wO ku):=by
 refine F.ok m5 (fun vs H Q E h=>?_) (fun cE A outer s H vs Q E hr h=>?_)
 ·obtain⟨c,rfl,_⟩:=h
  rfl
 obtain⟨x,rfl,hx,q⟩:=h
 refine⟨_,(ao (aF (tW (ax cJ (hr.mono (by decide)) rfl (aa (pv 0) ag)) (my (cN fe (aA fR (pv 0) ak (fun _ _=>rfl)) (bO rfl uE uF) (by with_unfolding_all rfl)))))),?_⟩
 refine⟨_,rfl,x,rfl,hx,fun H' sm=>⟨_,rfl,?_⟩⟩
 have q':=q H' sm
 unfold ku at q'
 refine iN (fun c=>?_) (fun c=>?_)
 ·refine⟨_,rfl,x,0,_,rfl,rfl,sz (by omega),Aa (C9 c),_,_,rfl,rfl,?_⟩
  rw [Yf]
  rw [c,YR] at q'
  exact q'
 ·have e:eU x=false:=by simpa using c
  rw [e,aal] at q'
  exact q'
theorem js:aC ["text","start","end"] ["text","start"] (av kL):=⟨rfl,rfl,rfl,by decide +kernel,rfl,by decide +kernel,by decide +kernel⟩
theorem xE (F:du K "name_end" "name_end" kL f fd) (cu:gD P w K mg base "is_name_sign" 1 ["sign"] yI) (bo:mg "len"=none):aU P w K mg base fK 2 f fd ["text","start"] GA:=by
 refine F.ok js (fun vs H Q E h=>?_) (fun cE A outer s H vs Q E hr h=>?_)
 ·obtain⟨x,p,rfl,_⟩:=h
  rfl
 obtain⟨x,p,rfl,hx,hp,q⟩:=h
 have hl:=ej x
 refine⟨_,(af (ay (i:=2) js.nd rfl (W6 rfl) (pv 1))
 (af (lA Xn (PW.pt (gR (aB jQ (pv 2) (aJ dq rfl bo W0 (aa (pv 0) ag)) (aK _)) (gQ (dj (ax cu (hr.mono (by decide)) rfl (aa (aA fR (pv 0) (pv 2) (fun _ _=>rfl)) ag))))))
 (ao (tX (i:=2) js.nd rfl (W6 rfl) ak tY)))
 (ao (aF (pv 2))))),?_⟩
 refine⟨_,rfl,fun m σ H'=>H'=H∧∃j:Nat,m=x.length - (p+j)∧σ=[some (.str x),some (.int p),some (.int ((p+j:Nat):Int))]∧p+j≤x.length∧a8 (x.cps.toList.drop p)=j+a8 (x.cps.toList.drop (p+j)),⟨_,rfl,0,rfl,rfl,hp,by simp⟩,?_⟩
 rintro m σ H' ⟨rfl,j,rfl,rfl,hj,e⟩
 refine⟨_,rfl,_,rfl,x,rfl,sz (by omega),_,_,rfl,rfl,_,rfl,?_⟩
 refine iN (fun c=>?_) (fun c=>?_)
 ·have c':p+j<x.length:=by
   have z:=of_decide_eq_true c
   omega
  have hd:x.cps.toList.drop (p+j)=x.cps.toList.getD (p+j) 0::x.cps.toList.drop (p+j+1):=wN (by omega)
  rw [hd,lJ] at e
  refine⟨_,rfl,_,rfl,x,_,_,rfl,rfl,sz (by omega),pS (by omega) (by omega),_,rfl,_,rfl,?_⟩
  rw [show((p+j:Nat):Int).toNat=p+j by omega]
  refine iN (fun c2=>?_) (fun c2=>?_)
  ·rw [if_pos c2] at e
   refine⟨fun σ' H2=>H2=H'∧σ'=[some (.str x),some (.int p),some (.int ((p+(j+1):Nat):Int))],fun σ' H2 z=>⟨x.length - (p+(j+1)),by omega,z.1,j+1,rfl,z.2,by omega,by rw [← Nat.add_assoc];omega⟩,?_⟩
   refine⟨_,rfl,_,_,rfl,rfl,rfl,?_⟩
   show [some (V.str x),some (V.int p),some (V.int (((p+j:Nat):Int)+1))]=_
   rw [show((p+(j+1):Nat):Int)=((p+j:Nat):Int)+1 by omega]
  ·rw [if_neg c2] at e
   refine⟨_,rfl,?_⟩
   rw [e] at q
   exact q
 ·have c':¬ (p+j<x.length):=fun z=>c (decide_eq_true (by omega))
  have hd:x.cps.toList.drop (p+j)=[]:=ZY (by omega)
  rw [hd] at e
  refine a7 ⟨_,rfl,?_⟩
  rw [e] at q
  exact q
theorem xF:aC ["found","place"] ["found","place"] (av kO):=⟨rfl,rfl,rfl,by decide +kernel,rfl,by decide +kernel,by decide +kernel⟩
theorem xG (F:du K "piece_at" "piece_at" kO f fd) (bo:mg "len"=none):aU P w K mg base fK 1 f fd ["found","place"] oY:=by
 refine F.ok xF (fun vs H Q E h=>?_) (fun cE A outer s H vs Q E hr h=>?_)
 ·obtain⟨l,ps,p,rfl,_⟩:=h
  rfl
 obtain⟨l,ps,p,rfl,hL,hz,q⟩:=h
 refine⟨_,(af (aX (aB jQ (pv 1) (aJ aD rfl bo W0 (aa (pv 0) ag)) (aK _))
 (ao (aF (aA az (pv 0) (pv 1) (fun _ _=>rfl))))
 aE)
 (ao (aF aq))),?_⟩
 refine⟨_,rfl,_,rfl,l,_,rfl,.inl (aI.of hL),_,_,rfl,rfl,_,rfl,?_⟩
 refine iN (fun c=>?_) (fun c=>?_)
 ·have c':p<ps.length:=by
   have z:=of_decide_eq_true c
   rw [Lm9] at z
   omega
  refine⟨_,rfl,_,rfl,l,_,_,tx (ps.getD p []),rfl,rfl,aI.of hL,?_,q⟩
  refine bT ?_
  rw [WX,Gd9,Ge9 c']
  rfl
 ·have c':ps.length≤p:=by
   have z:¬ ((p:Int)<(((ps.map tx).length:Nat):Int)):=fun z=>c (decide_eq_true z)
   rw [Lm9] at z
   omega
  have e:ps.getD p []=[]:=by
   rw [Gd9,Y3 c']
   rfl
  rw [e] at q
  exact q
end
end iR
namespace iR
open PySem L2 bB Bk
set_option maxHeartbeats 4000000
section
variable {P:WM} {w:Xj} {K:Wo} {mg:Str→Option Wr} {base:Heap} {f:WA} {fd:Xk} {C:WA}
theorem dP:aC ["text","marks","found","place","end","sign"] ["text","marks"] (av qh):=⟨rfl,rfl,rfl,by decide +kernel,rfl,by decide +kernel,by decide +kernel⟩
theorem BB (F:du K "pieces" "pieces" qh f fd) (kY:gD P w K mg base "name_end" 2 ["text","start"] GA) (bo:mg "len"=none) (aT:mg "NoLine"=some (.ref C)) (aM:Xo K C A9 mF=true):aU P w K mg base (oz P w) 3 f fd ["text","marks"] (sZ C):=by
 refine F.yF dP (fun vs H Q E h=>?_) (fun cE A outer s H vs Q E hr h=>?_)
 ·obtain⟨x,m,rfl,_⟩:=h
  rfl
 obtain⟨x,mk,rfl,hx,OY,OZ,cy,q⟩:=h
 have hl:=ej x
 refine⟨_,(af (ay (i:=2) dP.nd rfl (W6 rfl) (aL ag))
 (af (ay (i:=3) dP.nd rfl (W6 rfl) ak)
 (af (lA iY (aB jQ (pv 3) (aJ dq rfl bo W0 (aa (pv 0) ag)) (aK _))
 (af (ay (i:=4) dP.nd rfl (W6 rfl) (ax kY (hr.mono (by decide)) rfl (aa (pv 0) (aa (pv 3) ag))))
 (af (aX (aB wo (pv 4) (pv 3) (aK _))
 (af (bu (dg WZ W4 W9 bz (pv 2) (aa (cg iW (pv 0) (cb (pv 3)) (cb (pv 4))) ag)))
 (af (ay (i:=3) dP.nd rfl (W6 rfl) (pv 4))
 (ao wj)))
 aE)
 (af (ay (i:=5) dP.nd rfl (W6 rfl) (aA fR (pv 0) (pv 3) (fun _ _=>rfl)))
 (af (aX (aB fe (pv 5) (pv 1) (by with_unfolding_all rfl))
 (ao (bu (dg WZ W4 W9 bz (pv 2) (aa (pv 5) ag))))
 (ao (aX (aB gv (pv 5) aq (aK _))
 (ao (bH aM aT rfl (aa (gH (pv 5)) ag)))
 aE)))
 (ao (tX (i:=3) dP.nd rfl (W6 rfl) ak tY)))))))
 (ao (aF (pv 2)))))),?_⟩
 refine⟨(by show 0≤Wt;decide),fun l uI=>?_⟩
 refine⟨Am x mk l H,⟨_,0,[],none,none,rfl,rfl,Xs _,ai uI _,ae,rfl,rfl⟩,?_⟩
 rintro m σ H' ⟨p,done,o3,o4,rfl,rfl,hp,sm,hL,e,rq⟩
 have hlen:done.length≤20000:=by
  have z:=congrArg XF e
  rw [Wq] at z
  have z2:=wQ x.cps.toList
  omega
 refine⟨_,rfl,_,rfl,x,rfl,sz (by omega),_,_,rfl,rfl,_,rfl,?_⟩
 refine iN (fun c=>?_) (fun c=>?_)
 ·have c':p<x.length:=by
   have z:=of_decide_eq_true c
   omega
  refine⟨fun σ' H2=>∃m',m'<x.length - p∧Am x mk l H m' σ' H2,fun σ' H2 z=>z,?_⟩
  refine⟨_,rfl,_,rfl,x,p,rfl,hx,hp,?_⟩
  refine⟨_,rfl,_,rfl,_,_,rfl,rfl,_,rfl,?_⟩
  have hd:=wN (l:=x.cps.toList) (i:=p) (by omega)
  have Um:=yJ (x.cps.toList.drop p)
  rw [Xc] at Um
  refine iN (fun c2=>?_) (fun c2=>?_)
  ·have Ll:0<a8 (x.cps.toList.drop p):=by
    have z:=of_decide_eq_true c2
    omega
   refine⟨_,rfl,.inl ⟨rfl,_,aI.of hL⟩,_,rfl,_,rfl,_,rfl,_,rfl,_,rfl,x,rfl,sz (by omega),?_⟩
   rw [Ab (by omega)]
   refine⟨l,_,_,rfl,rfl,hL,(by rw [Lm9];exact lu (by omega)),?_⟩
   refine⟨_,rfl,x.length - (p+a8 (x.cps.toList.drop p)),by omega,p+a8 (x.cps.toList.drop p),done++[(x.cps.toList.drop p).take (a8 (x.cps.toList.drop p))],_,_,rfl,rfl,by omega,aj.aS sm uI _,?_,?_,?_⟩
   ·rw [ae,WQ]
    rfl
   ·rw [pR (by omega),YW] at e
    rw [WK]
    exact e
   ·rw [rq]
    have z:=Bi (mk:=mk) (x.cps.toList.drop p)
    rw [YW] at z
    exact z
  ·have Ll:a8 (x.cps.toList.drop p)=0:=by
    have z:¬ ((p:Int)<((p+a8 (x.cps.toList.drop p):Nat):Int)):=fun z=>c2 (decide_eq_true z)
    omega
   have JA:aG (x.cps.toList.getD p 0)=false:=by
    rw [hd] at Ll
    exact uj Ll
   refine⟨_,rfl,_,rfl,x,p,_,rfl,rfl,sz (by omega),pS (by omega) (by omega),?_⟩
   rw [show((p:Nat):Int).toNat=p by omega]
   refine⟨_,rfl,_,rfl,_,_,rfl,rfl,_,rfl,?_⟩
   rw [Yf]
   rw [hd] at e
   rw [hd,XJ] at rq
   refine iN (fun c3=>?_) (fun c3=>?_)
   ·have hb:x.cps.toList.getD p 0≠32:=fun z=>OZ (by have:=of_decide_eq_true c3;rw [z] at this;exact this)
    rw [yK JA hb] at e
    have Lm:gP mk (x.cps.toList.getD p 0)=true:=by unfold gP;rw [c3];simp
    rw [Lm,YR] at rq
    refine⟨_,rfl,.inl ⟨rfl,_,aI.of hL⟩,_,rfl,l,_,_,rfl,rfl,hL,(by rw [Lm9];exact lu (by omega)),?_⟩
    refine⟨_,rfl,_,_,rfl,rfl,x.length - (p+1),by omega,p+1,done++[[x.cps.toList.getD p 0]],_,_,rfl,rfl,by omega,aj.aS sm uI _,?_,?_,rq⟩
    ·rw [ae,WQ]
     rfl
    ·rw [WK]
     exact e
   ·have Uo:decide (x.cps.toList.getD p 0∈mk.cps.toList)=false:=by simpa using c3
    refine⟨_,rfl,rfl,_,rfl,?_⟩
    by_cases hb:x.cps.toList.getD p 0=32
    ·have Lm:gP mk (x.cps.toList.getD p 0)=true:=by unfold gP;rw [hb];simp
     rw [Lm,YR] at rq
     rw [hb] at e ⊢
     rw [pQ] at e
     have z:decide (V.str ⟨#[32]⟩=V.str (Wn " "))=true:=by decide +kernel
     rw [z]
     refine a7 ?_
     exact⟨_,rfl,_,_,rfl,rfl,x.length - (p+1),by omega,p+1,done,_,_,rfl,rfl,by omega,sm,hL,e,rq⟩
    ·have z:decide (V.str ⟨#[x.cps.toList.getD p 0]⟩=V.str (Wn " "))=false:=lK (a:=[x.cps.toList.getD p 0]) (b:=[32]) (by simpa using hb)
     rw [z]
     have Lm:gP mk (x.cps.toList.getD p 0)=false:=by
      unfold gP
      rw [JA,Uo,aaB,aaB]
      simpa using hb
     rw [Lm,aal] at rq
     refine bF ⟨_,rfl,_,rfl,(by show(1:Nat)≤50000;decide),?_,fun _=>⟨(by show 1≤Wt;decide),cy rq _ sm⟩⟩
     intro c hc
     have hc':c=x.cps.toList.getD p 0:=by simpa using hc
     rw [hc']
     exact OY _ (Xy (getD_get (by omega)))
 ·have c':p=x.length:=by
   have z:¬ ((p:Int)<(x.length:Int)):=fun z=>c (decide_eq_true z)
   omega
  have hd:x.cps.toList.drop p=[]:=ZY (by omega)
  rw [hd] at e rq
  have e':done=toks x.cps.toList:=by
   rw [← e]
   show done=done++[]
   rw [Xh]
  rw [e'] at hL
  exact⟨_,rfl,q rq l H' sm uI hL⟩
theorem cI:aC ["found","place","names","name","mark"] ["found","place"] (av fB):=⟨rfl,rfl,rfl,by decide +kernel,rfl,by decide +kernel,by decide +kernel⟩
theorem oF (F:du K "arguments_at" "arguments_at" fB f fd) (bg:gD P w K mg base "piece_at" 1 ["found","place"] oY) (cJ:gD P w K mg base "is_name" 2 ["text"] (wO eU)) (Ft:mg "tuple"=none) (aT:mg "NoLine"=some (.ref C)) (aM:Xo K C A9 mF=true) :
  aU P w K mg base (oz P w) 3 f fd ["found","place"] (Ak C):=by
 refine F.yF cI (fun vs H Q E h=>?_) (fun cE A outer s H vs Q E hr h=>?_)
 ·obtain⟨l,ps,p,rfl,_⟩:=h
  rfl
 obtain⟨l,ps,p,rfl,hL,hT,cy,q⟩:=h
 have hz:=hT.n
 refine⟨_,(af (ay (i:=2) cI.nd rfl (W6 rfl) (aL ag))
 (af (aX (aB dm (ax bg (hr.mono (by decide)) rfl (aa (pv 0) (aa (pv 1) ag))) aq (aK _))
 (ao (aF (dI (aa (dI ag) (aa (ar de (pv 1) ak) ag)))))
 aE)
 (ao (lA iY (dj sx)
 (af (ay (i:=3) cI.nd rfl (W6 rfl) (ax bg (hr.mono (by decide)) rfl (aa (pv 0) (aa (pv 1) ag))))
 (af (aX (ki (dj (ax cJ (hr.mono (by decide)) rfl (aa (pv 3) ag))))
 (ao (bH aM aT rfl (aa (gH (pv 3)) ag)))
 aE)
 (af (bu (dg WZ W4 W9 bz (pv 2) (aa (pv 3) ag)))
 (af (ay (i:=4) cI.nd rfl (W6 rfl) (ax bg (hr.mono (by decide)) rfl (aa (pv 0) (aa (ar de (pv 1) ak) ag))))
 (af (tX (i:=1) cI.nd rfl (W6 rfl) ak tY)
 (af (aX (aB dm (pv 4) aq (aK _))
 (ao (aF (dI (aa (gw rg rfl Ft PyProof.Rows.Boot.«tuple» (aa (pv 2) ag)) (aa (pv 1) ag)))))
 aE)
 (ao (aX (aB gv (pv 4) aq (aK _))
 (ao (bH aM aT rfl (aa (gH (pv 4)) ag)))
 aE)))))))))))),?_⟩
 refine⟨(by show 0≤Wt;decide),fun ln JB=>?_⟩
 have IK:l≠ln:=fun z=>by rw [z,JB] at hL;cases hL
 have mJ:upd H ln (.lst []) l=some (.lst (ps.map tx)):=by rw [aw IK];exact hL
 refine⟨_,rfl,_,rfl,l,ps,p,rfl,mJ,hz,rfl,_,rfl,?_⟩
 have Ry:(ps.drop p).getD 0 []=ps.getD p []:=fg
 by_cases M7:ps.getD p []=[41]
 ·rw [M7]
  have z:decide (tx [41]=V.str (Wn ")"))=true:=by decide +kernel
  rw [z]
  have eO:gI (ps.drop p)=some ([],1):=by unfold gI;rw [Ry,if_pos M7]
  refine bF ⟨(by show 0≤Wt;decide),fun t2 DK=>?_⟩
  refine⟨_,rfl,_,_,rfl,rfl,(by show 2≤Wt;decide),fun t ht=>?_⟩
  have O0:t2≠t:=fun z=>by rw [← z,ae] at ht;cases ht
  refine q _ _ eO t t2 _ (aj.trans (ai JB _) (aj.trans (ai DK _) (ai ht _))) ae ?_
  rw [aw O0]
  exact ae
 ·have z:decide (tx (ps.getD p [])=V.str (Wn ")"))=false:=lK (b:=[41]) M7
  rw [z]
  have eO:gI (ps.drop p)=eT (ps.drop p):=by unfold gI;rw [Ry,if_neg M7]
  rw [eO] at cy q
  refine a7 ?_
  refine⟨GG l ln ps (eT (ps.drop p)) p H,⟨_,p,[],none,none,rfl,rfl,ai JB _,mJ,ae,Wz _,?_,by rw [Xc];simp;omega⟩,?_⟩
  ·cases eT (ps.drop p) <;> simp
  rintro m σ H' ⟨p',done,o3,o4,rfl,rfl,sm,hL',hN',O1,eo,Up⟩
  have g0:(ps.drop p').getD 0 []=ps.getD p' []:=fg
  have g1:(ps.drop p').getD 1 []=ps.getD (p'+1) []:=fg
  refine⟨_,rfl,?_⟩
  refine bF ⟨fun σ' H2=>∃m',m'<(ps.drop p').length∧GG l ln ps (eT (ps.drop p)) p H m' σ' H2,fun σ' H2 z=>z,?_⟩
  refine⟨_,rfl,_,rfl,l,ps,p',rfl,hL',hz,?_⟩
  have O2:=hT.at p'
  refine⟨_,rfl,S (ps.getD p' []),rfl,by rw [aV];omega,fun H2 pJ=>⟨_,rfl,?_⟩⟩
  rw [oX]
  cases DL:aR (ps.getD p' []) with
  | false =>
   have hn:=xi (l:=ps.drop p') (by rw [g0];exact DL)
   rw [hn] at eo
   exact bF ⟨_,rfl,S (ps.getD p' []),rfl,by rw [aV];omega,by rw [ba];exact O2.2,fun _=>⟨(by show 1≤Wt;decide),cy eo _ (aj.trans sm pJ)⟩⟩
  | true =>
  refine a7 ?_
  have hstep:=yO (l:=ps.drop p') (by rw [g0];exact DL)
  rw [g0,g1,YW] at hstep
  have Rz:=pJ _ _ hN'
  have IL:=pJ _ _ hL'
  have hpl:1≤(ps.drop p').length:=by
   cases hd:ps.drop p' with
   | nil=>rw [hd] at g0;rw [← g0] at DL;exact absurd DL (by decide)
   | cons a r=>simp
  refine⟨_,rfl,.inl ⟨rfl,_,aI.of Rz⟩,_,rfl,ln,_,_,rfl,rfl,Rz,(by rw [Lm9];exact lu (by omega)),?_⟩
  have IM:upd H2 ln (.lst (done.map tx++[tx (ps.getD p' [])])) l=some (.lst (ps.map tx)):=by rw [aw IK];exact IL
  refine⟨_,rfl,_,rfl,_,_,rfl,rfl,l,ps,p'+1,rfl,IM,hz,?_⟩
  refine⟨_,rfl,_,_,rfl,rfl,?_⟩
  have CU:aj H (upd H2 ln (.lst (done.map tx++[tx (ps.getD p' [])]))):=aj.aS (aj.trans sm pJ) JB _
  refine⟨_,rfl,rfl,_,rfl,?_⟩
  by_cases Fu:ps.getD (p'+1) []=[41]
  ·rw [Fu]
   rw [if_pos Fu] at hstep
   rw [hstep] at eo
   have z:decide (tx [41]=V.str (Wn ")"))=true:=by decide +kernel
   rw [z]
   refine bF ⟨_,rfl,ln,_,rfl,.inl ⟨aI.of ae,fun t2 DK=>?_⟩⟩
   refine⟨_,rfl,(by show 2≤Wt;decide),fun t ht=>?_⟩
   have O0:t2≠t:=fun z=>by rw [← z,ae] at ht;cases ht
   refine q _ _ eo t t2 _ (aj.trans CU (aj.trans (ai DK _) (ai ht _))) ?_ ?_
   ·rw [ae]
    show some (HO.tup [V.ref t2,V.int (((p':Nat):Int)+2)])=some (HO.tup [V.ref t2,V.int ((p+(p' - p+2):Nat):Int)])
    rw [show((p+(p' - p+2):Nat):Int)=(p':Int)+2 by omega]
   ·rw [aw O0,ae,WQ]
    rfl
  ·have z:decide (tx (ps.getD (p'+1) [])=V.str (Wn ")"))=false:=lK (b:=[41]) Fu
   rw [z]
   rw [if_neg Fu] at hstep
   refine a7 ?_
   refine⟨_,rfl,rfl,_,rfl,?_⟩
   by_cases Ao:ps.getD (p'+1) []=[44]
   ·rw [Ao]
    rw [if_pos Ao] at hstep
    have z2:decide (tx [44]=V.str (Wn ","))=true:=by decide +kernel
    rw [z2]
    refine a7 ?_
    have C0:2≤(ps.drop p').length:=by
     match hd:ps.drop p' with
     | []=>rw [hd] at hpl;exact absurd hpl (by decide)
     | [a]=>rw [hd] at g1;rw [← g1] at Ao;exact absurd Ao (by simp)
     | a::b::r=>simp
    have hd2:(ps.drop (p'+2)).length+2=(ps.drop p').length:=by
     rw [Xc] at C0 ⊢
     rw [Xc]
     omega
    refine⟨(ps.drop (p'+2)).length,by omega,p'+2,done++[ps.getD p' []],_,_,rfl,rfl,CU,IM,?_,by omega,?_,by rw [Wq];simp only [WC,Xv];omega⟩
    ·rw [ae,WQ]
     rfl
    ·rw [eo,hstep]
     cases eT (ps.drop (p'+2)) with
     | none=>rfl
     | some q =>
      show some (done++(ps.getD p' []::q.1),p' - p+(q.2+2))=some (done++[ps.getD p' []]++q.1,p'+2 - p+q.2)
      rw [WK,show p' - p+(q.2+2)=p'+2 - p+q.2 by omega]
      rfl
   ·have z2:decide (tx (ps.getD (p'+1) [])=V.str (Wn ","))=false:=lK (b:=[44]) Ao
    rw [z2]
    rw [if_neg Ao] at hstep
    rw [hstep] at eo
    have O3:=hT.at (p'+1)
    exact bF ⟨_,rfl,S (ps.getD (p'+1) []),rfl,by rw [aV];omega,by rw [ba];exact O3.2,fun _=>⟨(by show 1≤Wt;decide),cy eo _ CU⟩⟩
end
end iR
namespace iR
open PySem L2 bB Bk
set_option maxHeartbeats 4000000
section
variable {P:WM} {w:Xj} {K:Wo} {mg:Str→Option Wr} {base:Heap} {f:WA} {fd:Xk} {C:WA}
theorem kZ:aC ["found","place","kind","reading"] ["found","place"] (av m3):=⟨rfl,rfl,rfl,by decide +kernel,rfl,by decide +kernel,by decide +kernel⟩
theorem yX (F:du K "fact_at" "fact_at" m3 f fd) (bg:gD P w K mg base "piece_at" 1 ["found","place"] oY) (bb:gD P w K mg base "is_small_word" 3 ["text"] (wO ku)) (fD:g6 P w K mg base "arguments_at" 3 ["found","place"] (Ak C)) (aT:mg "NoLine"=some (.ref C)) (aM:Xo K C A9 mF=true) :
  aU P w K mg base (oz P w) 4 f fd ["found","place"] (Al C):=by
 refine F.yF kZ (fun vs H Q E h=>?_) (fun cE A outer s H vs Q E hr h=>?_)
 ·obtain⟨l,ps,p,rfl,_⟩:=h
  rfl
 obtain⟨l,ps,p,rfl,hL,hT,cy,q⟩:=h
 have hz:=hT.n
 refine⟨_,(af (ay (i:=2) kZ.nd rfl (W6 rfl) (ax bg (hr.mono (by decide)) rfl (aa (pv 0) (aa (pv 1) ag))))
 (af (aX (ki (dj (ax bb (hr.mono (by decide)) rfl (aa (pv 2) ag))))
 (ao (bH aM aT rfl (aa (gH (pv 2)) ag)))
 aE)
 (af (aX (aB gv (ax bg (hr.mono (by decide)) rfl (aa (pv 0) (aa (ar de (pv 1) ak) ag))) aq (aK _))
 (ao (aF (dI (aa (dI (aa (pv 2) (aa (dI ag) ag))) (aa (ar de (pv 1) ak) ag)))))
 aE)
 (af (ay (i:=3) kZ.nd rfl (W6 rfl) (cn fD (hr.mono (by decide)) rfl (aa (pv 0) (aa (ar de (pv 1) ak) ag))))
 (ao (aF (dI (aa (dI (aa (pv 2) (aa (aA bE (pv 3) ak (fun _ _=>rfl)) ag))) (aa (aA bE (pv 3) ak (fun _ _=>rfl)) ag))))))))),?_⟩
 have g0:(ps.drop p).getD 0 []=ps.getD p []:=fg
 have g1:(ps.drop p).getD 1 []=ps.getD (p+1) []:=fg
 have O2:=hT.at p
 have eF:gJ (ps.drop p)=if aH (ps.getD p [])=true then (if ps.getD (p+1) []=[40] then (gI (ps.drop (p+2))).map fun q=>(⟨ps.getD p [],q.1⟩,q.2+2) else some (⟨ps.getD p [],[]⟩,1)) else none:=by
  unfold gJ
  rw [g0,g1,YW]
 refine⟨_,rfl,_,rfl,l,ps,p,rfl,hL,hz,?_⟩
 refine⟨_,rfl,S (ps.getD p []),rfl,by rw [aV];omega,fun H1 s1=>⟨_,rfl,?_⟩⟩
 rw [pT]
 cases hk:aH (ps.getD p []) with
 | false =>
  rw [hk,if_neg (by decide)] at eF
  exact bF ⟨_,rfl,S (ps.getD p []),rfl,by rw [aV];omega,by rw [ba];exact O2.2,fun _=>⟨(by show 1≤Wt;decide),cy eF _ s1⟩⟩
 | true =>
 rw [hk,if_pos rfl] at eF
 refine a7 ?_
 have mJ:=s1 _ _ hL
 refine⟨_,rfl,_,rfl,_,_,rfl,rfl,l,ps,p+1,rfl,mJ,hz,rfl,_,rfl,?_⟩
 by_cases M8:ps.getD (p+1) []=[40]
 ·rw [M8]
  rw [if_pos M8] at eF
  have z:decide (tx [40]=V.str (Wn "("))=true:=by decide +kernel
  rw [z]
  refine a7 ?_
  refine⟨_,rfl,_,rfl,_,_,rfl,rfl,l,ps,p+2,rfl,mJ,hT,fun hn=>?_,fun as n ha t t2 H2 s2 ht DK=>?_⟩
  ·rw [hn] at eF
   exact(cy eF).sm s1
  rw [ha] at eF
  refine⟨_,rfl,_,rfl,t,_,0,.ref t2,rfl,rfl,da.of ht,rfl,(by show 2≤Wt;decide),fun t1 JC=>?_⟩
  have IP:=ai JC (.tup [tx (ps.getD p []),.ref t2])
  refine⟨_,rfl,t,_,1,_,rfl,rfl,da.of (IP _ _ ht),rfl,(by show 2≤Wt;decide),fun t0 Fv=>?_⟩
  have O4:t1≠t0:=fun z=>by rw [← z,ae] at Fv;cases Fv
  refine q _ _ eF t0 t1 t2 _ (aj.trans s1 (aj.trans s2 (aj.trans IP (ai Fv _)))) ?_ ?_ ((ai Fv _) _ _ (IP _ _ DK))
  ·rw [ae,show p+2+n=p+(n+2) by omega]
  ·rw [aw O4]
   exact ae
 ·have z:decide (tx (ps.getD (p+1) [])=V.str (Wn "("))=false:=lK (b:=[40]) M8
  rw [z]
  rw [if_neg M8] at eF
  refine bF ⟨_,rfl,(by show 0≤Wt;decide),fun t2 DK=>?_⟩
  refine⟨(by show 2≤Wt;decide),fun t1 JC=>?_⟩
  refine⟨_,rfl,_,_,rfl,rfl,(by show 2≤Wt;decide),fun t0 Fv=>?_⟩
  have O4:t1≠t0:=fun z=>by rw [← z,ae] at Fv;cases Fv
  refine q _ _ eF t0 t1 t2 _ (aj.trans s1 (aj.trans (ai DK _) (aj.trans (ai JC _) (ai Fv _)))) ae ?_ ((ai Fv _) _ _ ((ai JC _) _ _ ae))
  rw [aw O4]
  exact ae
theorem bS:aC ["found","facts","place","reading"] ["found"] (av fA):=⟨rfl,rfl,rfl,by decide +kernel,rfl,by decide +kernel,by decide +kernel⟩
theorem oG (F:du K "row_of_facts" "row_of_facts" fA f fd) (m7:g6 P w K mg base "fact_at" 4 ["found","place"] (Al C)) (bo:mg "len"=none) (aT:mg "NoLine"=some (.ref C)) (aM:Xo K C A9 mF=true):aU P w K mg base (oz P w) 5 f fd ["found"] (Ds K C):=by
 refine F.yF bS (fun vs H Q E h=>?_) (fun cE A outer s H vs Q E hr h=>?_)
 ·obtain⟨l,ps,rfl,_⟩:=h
  rfl
 obtain⟨l,ps,rfl,hL,hT,cy,q⟩:=h
 have hz:=hT.n
 refine⟨_,(af (ay (i:=1) bS.nd rfl (W6 rfl) (aL ag))
 (af (ay (i:=2) bS.nd rfl (W6 rfl) ak)
 (ao (lA iY (dj sx)
 (af (ay (i:=3) bS.nd rfl (W6 rfl) (cn m7 (hr.mono (by decide)) rfl (aa (pv 0) (aa (pv 2) ag))))
 (af (bu (dg WZ W4 W9 bz (pv 1) (aa (aA bE (pv 3) ak (fun _ _=>rfl)) ag)))
 (af (ay (i:=2) bS.nd rfl (W6 rfl) (aA bE (pv 3) ak (fun _ _=>rfl)))
 (af (aX (aB dm (pv 2) (aJ aD rfl bo W0 (aa (pv 0) ag)) (aK _))
 (ao (aF (pv 1)))
 aE)
 (af (aX (aB gv (aA az (pv 0) (pv 2) (fun _ _=>rfl)) aq (aK _))
 (ao (bH aM aT rfl (aa (cY hr.gd hr.units (pv 0)) ag)))
 aE)
 (ao (tX (i:=2) bS.nd rfl (W6 rfl) ak tY))))))))))),?_⟩
 refine⟨(by show 0≤Wt;decide),fun lf DM=>?_⟩
 have hne:l≠lf:=au hL DM
 generalize hO:uA (ps.length+1) ps=o at cy q
 refine⟨KZ K l lf ps o H,⟨_,0,ps.length+1,[],[],none,rfl,rfl,ai DM _,by rw [aw hne];exact hL,ae,.nil,by rw [Yz];omega,?_,by rw [Yz];simpa using hz⟩,?_⟩
 ·rw [Yz,hO]
  cases o <;> simp
 rintro m σ H' ⟨p,fu,done,us,o3,rfl,rfl,sm,hL',hf',pr,V5,eo,Up⟩
 obtain⟨fu,rfl⟩:∃k,fu=k+1:=⟨fu - 1,by omega⟩
 have eo:o=((gJ (ps.drop p)).bind fun q=>if q.2=(ps.drop p).length then some [q.1] else if (ps.drop p).getD q.2 []=[44] then (uA fu ((ps.drop p).drop (q.2+1))).map (q.1 :: ·) else none).map (done ++ ·):=eo
 refine⟨_,rfl,bF ⟨fun σ' H2=>∃m',m'<(ps.drop p).length∧KZ K l lf ps o H m' σ' H2,fun σ' H2 z=>z,?_⟩⟩
 refine⟨_,rfl,_,rfl,l,ps,p,rfl,hL',hT,fun hn=>?_,fun f1 n hF t t1 t2 H2 s2 ht JC DK=>?_⟩
 ·rw [hn] at eo
  exact(cy eo).sm sm
 rw [hF] at eo
 have eo:o=(if n=(ps.drop p).length then some [f1] else if (ps.drop p).getD n []=[44] then (uA fu ((ps.drop p).drop (n+1))).map (f1 :: ·) else none).map (done ++ ·):=eo
 have hle:=Dv hF
 have hdr:(ps.drop p).length=ps.length - p:=Xc ..
 have M9:=s2 _ _ hf'
 have IL:=s2 _ _ hL'
 have hlen:us.length≤20000:=by
  have z:=pr.length
  omega
 refine⟨_,rfl,.inl ⟨rfl,_,aI.of M9⟩,_,rfl,t,_,0,_,rfl,rfl,da.of ht,rfl,lf,_,_,rfl,rfl,M9,lu (by omega),?_⟩
 have Uq:t≠lf:=wb ht M9 (by intro z;cases z)
 have kp:Kp (upd H lf (.lst [])) H2 (upd H2 lf (.lst (us++[V.ref t1]))):=Kp.upd ae M9 (by intro xs z;cases z) (by intro o u z;cases z)
 have RA:Paired (Fact K (upd H2 lf (.lst (us++[V.ref t1])))) (done++[f1]) (us++[V.ref t1]):=by
  refine(L2.Paired.cP pr fun a b z=>Fact.keep kp (Fact.keep (H0:=H) (Kp.same s2) z)).snoc ?_
  exact Fact.keep kp ⟨t1,t2,rfl,da.of JC,da.of DK⟩
 have IM:upd H2 lf (.lst (us++[V.ref t1])) l=some (.lst (ps.map tx)):=by rw [aw hne];exact IL
 have CU:aj H (upd H2 lf (.lst (us++[V.ref t1]))):=aj.aS (aj.trans sm s2) DM _
 refine⟨_,rfl,t,_,1,_,rfl,rfl,da.of (by rw [aw Uq];exact ht),rfl,?_⟩
 refine⟨_,rfl,_,rfl,l,_,rfl,.inl (aI.of IM),rfl,_,rfl,?_⟩
 rw [Lm9]
 by_cases hend:n=(ps.drop p).length
 ·rw [if_pos hend] at eo
  have z:decide (V.int ((p+n:Nat):Int)=V.int (ps.length:Int))=true:=by
   refine decide_eq_true ?_
   rw [show p+n=ps.length by omega]
  rw [z]
  exact bF ⟨_,rfl,q _ eo _ _ CU ⟨lf,_,rfl,DM,ae,RA⟩⟩
 ·rw [if_neg hend] at eo
  have z:decide (V.int ((p+n:Nat):Int)=V.int (ps.length:Int))=false:=by
   refine decide_eq_false fun z=>?_
   have z':((p+n:Nat):Int)=(ps.length:Int):=by injection z
   omega
  rw [z]
  refine a7 ?_
  have gn:(ps.drop p).getD n []=ps.getD (p+n) []:=fg
  rw [gn] at eo
  refine⟨_,rfl,_,rfl,l,_,_,tx (ps.getD (p+n) []),rfl,rfl,aI.of IM,?_,rfl,_,rfl,?_⟩
  ·refine bT ?_
   rw [WX,Ge9 (by omega),Gd9,Ge9 (by omega)]
   rfl
  ·by_cases Ao:ps.getD (p+n) []=[44]
   ·rw [Ao]
    rw [if_pos Ao] at eo
    have z2:decide (tx [44]=V.str (Wn ","))=true:=by decide +kernel
    rw [z2]
    refine a7 ⟨_,rfl,_,_,rfl,rfl,(ps.drop (p+n+1)).length,?_,p+n+1,fu,done++[f1],_,_,rfl,rfl,CU,IM,ae,RA,?_,?_,?_⟩
    ·rw [Xc,Xc];omega
    ·rw [Xc];omega
    ·rw [eo,YW,show p+(n+1)=p+n+1 by omega,Option.map_map]
     congr 1
     funext z
     simp
    ·rw [Wq,Xc];simp only [WC,Xv];omega
   ·have z2:decide (tx (ps.getD (p+n) [])=V.str (Wn ","))=false:=lK (b:=[44]) Ao
    rw [z2]
    rw [if_neg Ao] at eo
    refine bF ⟨_,rfl,l,ps.map S,rfl,aI.of (by rw [← fU];exact IM),fun b hb=>?_,?_,by rw [Lm9];omega,fun _=>⟨(by show 1≤Wt;decide),cy eo _ CU⟩⟩
    ·obtain⟨a,ha,rfl⟩:=Xu.mp hb
     exact⟨by rw [aV];exact W5 (g7 ha) hT.sum,by rw [ba];exact hT.IA a ha⟩
    ·rw [XT,show((fun x:Str=>x.length) ∘ S)=XF from funext fun a=>aV a]
     have:=hT.sum
     omega
end
end iR
namespace iR
open PySem L2 bB Bk
set_option maxHeartbeats 4000000
section
variable {P:WM} {w:Xj} {K:Wo} {mg:Str→Option Wr} {base:Heap} {f:WA} {fd:Xk} {c:Cl}
theorem qj:aC ["line","bare"] ["line"] (av m4):=⟨rfl,rfl,rfl,by decide +kernel,rfl,by decide +kernel,by decide +kernel⟩
theorem yY (F:du K "is_told" "is_told" m4 f fd):aU P w K mg base fK 1 f fd ["line"] De:=by
 refine F.ok qj (fun vs H Q E h=>?_) (fun cE A outer s H vs Q E hr h=>?_)
 ·obtain⟨p,rfl,_⟩:=h
  rfl
 obtain⟨p,rfl,hx,q⟩:=h
 refine⟨_,(af (ay (i:=1) qj.nd rfl (W6 rfl) (dg Yo PySem.F.slot_str_strip PySem.F.type_str_strip CY (pv 0) (aa aq ag)))
 (ao (aF (tW (cN gv (pv 1) aq (aK _)) (my (cN gv (aA fR (pv 1) ak (fun _ _=>rfl)) aq (aK _))))))),?_⟩
 obtain⟨b,eb,hb,eh⟩:=Dd p
 refine⟨_,rfl,rfl,_,_,rfl,rfl,(by rw [aV];exact sz (by omega)),?_⟩
 rw [eb]
 unfold told at q
 refine⟨_,rfl,rfl,_,rfl,?_⟩
 have e0:(Wn "")=S []:=by decide +kernel
 rw [e0]
 cases hd:p.dropWhile (· == 32) with
 | nil =>
  rw [hd] at eh q
  have hb0:b=[]:=by
   cases b with
   | nil=>rfl
   | cons x r=>cases eh
  subst hb0
  rw [decide_eq_true rfl]
  exact a7 q
 | cons x r =>
  rw [hd] at eh q
  obtain⟨b',rfl⟩:∃b',b=x::b':=by
   cases b with
   | nil=>cases eh
   | cons y r'=>exact⟨r',by rw [Xe eh]⟩
  have e1:decide (V.str (S (x::b'))=V.str (S []))=false:=lK (a:=x::b') (b:=[]) (by simp)
  rw [e1]
  refine bF ⟨_,rfl,S (x::b'),0,x,rfl,rfl,(by rw [aV];exact sz (by omega)),?_,rfl,?_⟩
  ·rw [ba]
   exact bT (j:=0) rfl
  ·have e2:decide (V.str ⟨#[x]⟩=V.str (Wn "#"))=(x == 35):=by
    have e3:(Wn "#")=S [35]:=by decide +kernel
    rw [e3]
    have e4:=C8 [x] [35]
    show decide (tx [x]=tx [35])=_
    rw [e4]
    simp [Z6]
   rw [e2]
   exact q
theorem rA:aC ["text"] ["text"] (av g8):=⟨rfl,rfl,rfl,by decide +kernel,rfl,by decide +kernel,by decide +kernel⟩
theorem rB (F:du K "told_lines" "told_lines" g8 f fd) (m8:gD P w K mg base "is_told" 1 ["line"] De):aU P w K mg base fK 2 f fd ["text"] Ad:=by
 refine F.ok rA (fun vs H Q E h=>?_) (fun cE A outer s H vs Q E hr h=>?_)
 ·obtain⟨ls,rfl,_⟩:=h
  rfl
 obtain⟨ls,rfl,h0,hN,hx,q⟩:=h
 refine⟨_,(ao (aF (dc [] rfl (by kernel_rfl) (bj (dg Yo Yn PySem.F.type_str_split CW (pv 0) (aa aq ag))) (fun _ _ _ _ _=>(ud (dj (ax m8 (hr.mono (by decide)) rfl (aa (pv 0) ag))))) (fun _ _ _ _ _=>(pv 0))))),?_⟩
 have JD:=sU ls
 refine⟨_,rfl,rfl,_,_,rfl,rfl,rfl,(by rw [aV];exact sz (by omega)),?_⟩
 rw [wW h0 hN]
 refine⟨(by rw [Lm9];exact sz (by omega)),fun l hl=>⟨l,rfl,⟨_,aI.of ae⟩,fun D hD=>?_⟩⟩
 have Ur:H D=none:=(ai hl _).free hD
 refine E2 (K:=K) (xs:=(ls.map S).map V.str) (by rw [Lm9,Lm9];exact lu (by omega)) hD (aI.of ae) (fun v=>match v with|.str x=>told x.cps.toList|_=>false) id (fun x H' R hm sm hR=>?_) (fun x H' R hm hk sm hR=>?_) (fun H' sm hL=>?_)
 ·obtain⟨z,hz,rfl⟩:=Xu.mp hm
  obtain⟨y,hy,rfl⟩:=Xu.mp hz
  refine⟨_,rfl,y,rfl,by have:=mO ls y hy;omega,_,rfl,?_⟩
  have z:R (told (S y).cps.toList) H':=hR H' (aj.refl H')
  rw [ba] at z
  exact z
 ·exact⟨_,rfl,hR H' (aj.refl H')⟩
 ·refine q _ _ (aj.trans (ai hl _) sm) ⟨D,rfl,Ur,?_⟩
  rw [hL,aaw,XT]
  congr 2
  rw [List.filter_map]
  have e:((fun v=>match v with|V.str x=>told x.cps.toList|_=>false) ∘ (V.str ∘ S))=told:=by
   funext y
   show told (S y).cps.toList=told y
   rw [ba]
  rw [e]
  rfl
end
end iR
namespace iR
open PySem L2 bB Bk
set_option maxHeartbeats 4000000
section
variable {P:WM} {w:Xj} {K:Wo} {mg:Str→Option Wr} {base:Heap} {f:WA} {fd:Xk} {c:Cl}
theorem Fw {xs:List V} {v:V}:wx (xs++[v]) (-1)=some v:=by
 unfold wx
 have e:Gu (xs++[v]).length (-1)=some xs.length:=by
  unfold Gu
  rw [Wq,WL,if_neg (by decide)]
  simp
  omega
 rw [e]
 simp
theorem m9:aC ["found","mark","rows","piece"] ["found","mark"] (av qi):=⟨rfl,rfl,rfl,by decide +kernel,rfl,by decide +kernel,by decide +kernel⟩
theorem BC (F:du K "parted" "parted" qi f fd):aU P w K mg base fK 1 f fd ["found","mark"] lN:=by
 refine F.ok m9 (fun vs H Q E h=>?_) (fun cE A outer s H vs Q E hr h=>?_)
 ·obtain⟨l,ps,m,rfl,_⟩:=h
  rfl
 obtain⟨l,ps,m,rfl,hL,hz,q⟩:=h
 refine⟨_,(af (ay (i:=2) m9.nd rfl (W6 rfl) (aL (aa (aL ag) ag)))
 (af (dk Xn rfl (bj (pv 0)) (b8 (i:=3) m9.nd rfl (W6 rfl))
 (ao (aX (aB dm (pv 3) (pv 1) (aK _))
 (ao (bu (dg WZ W4 W9 bz (pv 2) (aa (aL ag) ag))))
 (ao (bu (dg WZ W4 W9 bz (aA az (pv 2) (Kb Hq ak) (fun _ _=>rfl)) (aa (pv 3) ag)))))))
 (ao (aF (pv 2))))),?_⟩
 refine⟨(by show 0≤Wt;decide),fun b0 hb0=>⟨(by show 1≤Wt;decide),fun lr yG=>?_⟩⟩
 have RB:b0≠lr:=fun z=>by rw [← z,ae] at yG;cases yG
 have Lo:H lr=none:=(ai hb0 _).free yG
 have s0:aj H (upd (upd H b0 (.lst [])) lr (.lst [V.ref b0])):=aj.trans (ai hb0 _) (ai yG _)
 refine⟨_,rfl,l,rfl,⟨_,aI.of (s0 _ _ hL)⟩,cf (K:=K) (a:=l) (xs:=ps.map tx) (fun i σ H'=>∃(bs:List WA) (o:Option V),σ=[some (.ref l),some (tx m),some (.ref lr),o]∧aj H H'∧H' lr=some (.lst (bs.map V.ref)) ∧
   Paired (fun row b=>H b=none∧b≠lr∧H' b=some (.lst (row.map tx))) (aN m (ps.take i) [[]]) bs∧bs.Nodup)
  ⟨[b0],none,rfl,s0,ae,.cons ⟨hb0,RB,by rw [aw RB];exact ae⟩ .nil,by simp⟩ (fun i σ H' _ ⟨_,_,_,sm,_⟩=>aI.of (sm _ _ hL)) ?_ ?_⟩
 ·rintro i y σ H' hi ⟨bs,o,rfl,sm,hr',pr,nd⟩
  have RC:i<ps.length:=by
   have:=(Wv.mp hi).1
   simpa using this
  obtain rfl:y=tx ps[i]:=by
   rw [WX,Ge9 RC] at hi
   exact(Xe hi).symm
  have RD:aN m (ps.take (i+1)) [[]]=d6 m ps[i] (aN m (ps.take i) [[]]):=by
   rw [WB RC,lM]
  have V6:bs.length≤20002:=by
   have z:=WW pr
   have z2:=fL m (ps.take i) [[]]
   rw [WV] at z2
   simp only [WC,Xv] at z2
   omega
  refine⟨_,rfl,_,rfl,rfl,_,rfl,?_⟩
  rw [C8]
  refine iN (fun e=>?_) (fun e=>?_)
  ·have e':ps[i]=m:=of_decide_eq_true e
   refine⟨_,rfl,.inl ⟨rfl,_,aI.of hr'⟩,(by show 0≤Wt;decide),fun b hb=>?_⟩
   have O5:b≠lr:=fun z=>by rw [z,hr'] at hb;cases hb
   have RE:H b=none:=sm.free hb
   have Us:upd H' b (.lst []) lr=some (.lst (bs.map V.ref)):=by rw [aw (Xl O5)];exact hr'
   refine⟨lr,_,_,rfl,rfl,Us,(by rw [Lm9];exact lu (by omega)),bs++[b],_,rfl,aj.aS (aj.aS sm RE _) Lo _,?_,?_,?_⟩
   ·rw [ae,WQ]
    rfl
   ·rw [RD]
    unfold d6
    rw [if_pos e']
    have p2:Paired (fun row x=>H x=none∧x≠lr∧upd (upd H' b (.lst [])) lr (.lst (bs.map V.ref++[V.ref b])) x=some (.lst (row.map tx))) (aN m (ps.take i) [[]]) bs:=L2.Paired.cP pr fun row x z=>⟨z.1,z.2.1,by
     rw [aw z.2.1,aw (au z.2.2 hb)]
     exact z.2.2⟩
    exact p2.snoc ⟨RE,O5,by rw [aw O5];exact ae⟩
   ·rw [Ye]
    refine⟨nd,by simp,?_⟩
    intro x hx y hy
    rw [Wy.mp hy]
    intro z
    subst z
    obtain⟨row,_,Ut⟩:=ky pr hx
    rw [Ut.2.2] at hb
    cases hb
  ·have e':ps[i]≠m:=fun z=>by rw [decide_eq_true z] at e;exact e rfl
   obtain⟨a1,row,b1,b,e1,e2,p1,hb⟩:=nJ pr (pV m _ _ (by simp))
   have uJ:row.length≤20000:=by
    have z:=kz m (ps.take i) [[]] 0 (by intro r hr;rw [Wy.mp hr];exact Wz _) row (by rw [e1];simp)
    rw [WV] at z
    omega
   have O6:H' lr=some (.lst (b1.map V.ref++[V.ref b])):=by
    rw [hr',e2,WQ]
    rfl
   refine⟨_,rfl,_,rfl,lr,_,_,V.ref b,rfl,rfl,aI.of O6,Fw,.inl ⟨rfl,_,aI.of hb.2.2⟩,_,rfl,b,_,_,rfl,rfl,hb.2.2,(by rw [Lm9];exact lu (by omega)),?_⟩
   refine⟨bs,_,rfl,aj.aS sm hb.1 _,by rw [aw (Xl hb.2.1)];exact hr',?_,nd⟩
   rw [RD]
   unfold d6
   rw [if_neg e',e1,List.dropLast_concat,show(a1++[row]).getLastD []=row by simp,e2]
   rw [e2,Ye] at nd
   refine aaR ?_ ⟨hb.1,hb.2.1,?_⟩
   ·refine nK p1 fun r x hx z=>⟨z.1,z.2.1,?_⟩
    rw [aw (nd.2.2 x hx b (by simp))]
    exact z.2.2
   ·rw [ae,WQ]
    rfl
 ·rintro σ H' ⟨bs,o,rfl,sm,hr',pr,nd⟩
  rw [Lm9,XN] at pr
  refine⟨_,rfl,q _ _ sm ⟨lr,_,rfl,Lo,hr',?_⟩⟩
  exact nM (L2.Paired.cP pr fun row b z=>(⟨b,rfl,z.1,z.2.2⟩:GB H H' row (V.ref b)))
end
end iR
namespace iR
open PySem L2 bB Bk
set_option maxHeartbeats 4000000
section
variable {P:WM} {w:Xj} {K:Wo} {mg:Str→Option Wr} {base:Heap} {f:WA} {fd:Xk} {c:Cl}
theorem xH:aC ["name"] ["name"] (av kJ):=⟨rfl,rfl,rfl,by decide +kernel,rfl,by decide +kernel,by decide +kernel⟩
theorem xI {u1:Wr} (F:du K "is_great" "is_great" kJ f fd) (uG:mg "GREAT"=some u1) (uH:RelV (.str dJ) u1):aU P w K mg base fK 1 f fd ["name"] um:=by
 refine F.ok xH (fun vs H Q E h=>?_) (fun cE A outer s H vs Q E hr h=>?_)
 ·obtain⟨p,rfl,_⟩:=h
  rfl
 obtain⟨p,rfl,h1,hx,q⟩:=h
 refine⟨_,(ao (aF (cN fe (aA fR (pv 0) ak (fun _ _=>rfl)) (bO rfl uG uH) (by with_unfolding_all rfl)))),?_⟩
 have hl:1≤(S p).length:=by
  rw [aV]
  cases p with
  | nil=>exact absurd rfl h1
  | cons a r=>simp
 refine⟨_,rfl,S p,0,_,rfl,rfl,(by rw [aV];exact sz (by omega)),Aa hl,_,_,rfl,rfl,?_⟩
 rw [Yf,ba]
 exact q
theorem dX:aC ["facts","found","fact","name"] ["facts"] (av ia):=⟨rfl,rfl,rfl,by decide +kernel,rfl,by decide +kernel,by decide +kernel⟩
theorem rC (F:du K "open_names" "open_names" ia f fd) (dQ:gD P w K mg base "is_great" 1 ["name"] um) (IQ:mg "list"=none):aU P w K mg base fK 2 f fd ["facts"] (Ae K):=by
 refine F.ok dX (fun vs H Q E h=>?_) (fun cE A outer s H vs Q E hr h=>?_)
 ·obtain⟨l,us,fs,rfl,_⟩:=h
  rfl
 obtain⟨l,us,fs,rfl,hL,hP,hz,hok,Fx,q⟩:=h
 have hu:=wA hr
 refine⟨_,(af (ay (i:=1) dX.nd rfl (W6 rfl) wJ)
 (af (dk Xn rfl (bj (pv 0)) (b8 (i:=2) dX.nd rfl (W6 rfl))
 (ao (dk Xn rfl (Hj (aA bE (pv 2) ak (fun _ _=>rfl))) (b8 (i:=3) dX.nd rfl (W6 rfl))
 (ao (aX (dj (ax dQ (hr.mono (by decide)) rfl (aa (pv 3) ag)))
 (ao (z7 hu (pv 1) (pv 3) sx rfl))
 aE)))))
 (ao (aF (gw (pO rfl) rfl IQ PyProof.Rows.Boot.«list» (aa (pv 1) ag)))))),?_⟩
 intro d hd
 have Uu:=WW hP
 refine⟨_,rfl,l,rfl,⟨_,aI.of ((ai hd _) _ _ hL)⟩,cf (K:=K) (a:=l) (xs:=us) (fun i σ H'=>∃o2 o3,σ=[some (.ref l),some (.ref d),o2,o3]∧aj H H'∧H' d=some (.dK ((dw ((fs.take i).flatMap (·.as)) []).map rm))∧(dw ((fs.take i).flatMap (·.as)) []).length≤((fs.take i).flatMap (·.as)).length)
  ⟨none,none,rfl,ai hd _,ae,Wz _⟩ (fun i σ H' _ ⟨_,_,_,sm,_⟩=>aI.of (sm _ _ hL)) ?_ ?_⟩
 ·rintro i y σ H' hi ⟨o2,o3,rfl,sm,Cg,C5⟩
  have v8:i<us.length:=(Wv.mp hi).1
  have DN:i<fs.length:=by omega
  have ey:us[i]=y:=(Wv.mp hi).2
  obtain⟨t,t2,et,h1,h2⟩:=paired_at hP i DN v8
  rw [ey] at et
  subst et
  have h1':da K H' t [tx fs[i].k,.ref t2]:=h1.same sm
  have Uv:=hok fs[i] (WT DN)
  generalize GN:dw ((fs.take i).flatMap (·.as)) []=xJ at Cg C5
  have RG:∀j,dw (((fs.take i).flatMap (·.as))++(fs[i].as.take j)) []=dw (fs[i].as.take j) xJ:=fun j=>by rw [mQ,GN]
  have RH:((fs.take i).flatMap (·.as)).length+fs[i].as.length≤20000:=by
   have e:fs.flatMap (·.as)=(fs.take i).flatMap (·.as)++(fs[i].as++(fs.drop (i+1)).flatMap (·.as)):=by
    rw [← List.flatMap_cons,← XR,← XD DN,X7]
   have z:=congrArg XF e
   rw [Wq,Wq] at z
   omega
  refine⟨_,rfl,t,_,1,_,rfl,rfl,h1',rfl,t2,rfl,⟨_,h2.same sm⟩,EC (K:=K) (a:=t2) (xs:=fs[i].as.map tx) (fun j σ H2=>∃o3,σ=[some (.ref l),some (.ref d),some (.ref t),o3]∧aj H H2∧H2 d=some (.dK ((dw (fs[i].as.take j) xJ).map rm))∧(dw (fs[i].as.take j) xJ).length≤xJ.length+j)
   ⟨_,rfl,sm,Cg,Wz _⟩ (fun j σ H2 _ ⟨_,_,pJ,_⟩=>h2.same pJ) ?_ ?_⟩
  ·rintro j y σ H2 hj ⟨Uw,rfl,pJ,DO,oU⟩
   have O7:j<fs[i].as.length:=by
    have:=(Wv.mp hj).1
    simpa using this
   obtain rfl:y=tx fs[i].as[j]:=by
    rw [WX,Ge9 O7] at hj
    exact(Xe hj).symm
   have DL:=sT (Uv.2.2 _ (WT O7))
   have st:dw (fs[i].as.take (j+1)) xJ=jT fs[i].as[j] (dw (fs[i].as.take j) xJ):=by
    rw [WB O7,mQ]
    rfl
   have BD:=Bf fs[i].as[j] (dw (fs[i].as.take j) xJ)
   refine⟨_,rfl,fs[i].as[j],rfl,(fun z=>by rw [z] at DL;simp at DL),by omega,_,rfl,?_⟩
   refine iN (fun g=>?_) (fun g=>?_)
   ·refine⟨_,rfl,_,rfl,d,_,rfl,Bb.k (k:=(W3 (S fs[i].as[j]):Key)) DO (by rw [Lm9];exact lu (by omega)),?_⟩
    rw [Dj]
    refine⟨_,rfl,aj.aS pJ hd _,?_,?_⟩
    ·rw [ae,st]
     unfold jT
     rw [if_pos g]
    ·rw [st];omega
   ·refine⟨_,rfl,pJ,?_,?_⟩
    ·rw [st]
     unfold jT
     rw [if_neg g]
     exact DO
    ·rw [st];omega
  ·rintro σ H2 ⟨Uw,rfl,pJ,DO,oU⟩
   rw [Lm9,XN] at DO oU
   have e:dw ((fs.take (i+1)).flatMap (·.as)) []=dw fs[i].as xJ:=by
    rw [WB DN,XR,mQ,GN]
    simp
   refine⟨_,_,rfl,pJ,by rw [e];exact DO,?_⟩
   rw [e,WB DN,XR,Wq,show([fs[i]].flatMap (·.as))=fs[i].as by simp]
   omega
 ·rintro σ H' ⟨o2,o3,rfl,sm,Cg,C5⟩
  rw [← Uu,XN] at Cg
  refine⟨_,rfl,d,_,rfl,Cg,fun l2 oU=>?_⟩
  refine q _ _ (aj.trans sm (ai oU _)) ⟨l2,rfl,sm.free oU,?_⟩
  rw [ae,Di,XT]
  rfl
theorem uK:aC ["self","title","parts"] ["self","title","parts"] (av jm):=⟨rfl,rfl,rfl,by decide +kernel,rfl,by decide +kernel,by decide +kernel⟩
theorem uL (F:du K "__init__" "Rule.__init__" jm f fd) (T:uo K c.rule) (ip:gD P w K mg base "open_names" 2 ["facts"] (Ae K)):aU P w K mg base fK 3 f fd ["self","title","parts"] (oZ K c):=by
 refine F.ok uK (fun vs H Q E h=>?_) (fun cE A outer s H vs Q E hr h=>?_)
 ·obtain⟨H0,p,dx,d,title,L,kvs,u0,rfl,_⟩:=h
  rfl
 obtain⟨H0,p,dx,d,title,L,kvs,u0,rfl,hp,O8,oW,hd,pa,h5,hok,Lp,q⟩:=h
 have hu:=wA hr
 refine⟨_,(af (ps_fld (pv 0) (pv 1) rfl)
 (af (ps_fld (pv 0) (i8 hu (pv 2) aq (aL ag) ⟨rfl,rfl,rfl,rfl⟩) rfl)
 (af (ps_fld (pv 0) (i8 hu (pv 2) aq (aL ag) ⟨rfl,rfl,rfl,rfl⟩) rfl)
 (af (ps_fld (pv 0) (i8 hu (pv 2) aq (aL ag) ⟨rfl,rfl,rfl,rfl⟩) rfl)
 (af (ps_fld (pv 0) (i8 hu (pv 2) aq (aL ag) ⟨rfl,rfl,rfl,rfl⟩) rfl)
 (af (ps_fld (pv 0) (i8 hu (pv 2) aq (aL ag) ⟨rfl,rfl,rfl,rfl⟩) rfl)
 (ao (ps_fld (pv 0) (ax ip (hr.mono (by decide)) rfl (aa (ar cB (pe_fld (pv 0) rfl) (pe_fld (pv 0) rfl)) ag)) rfl)))))))),?_⟩
 have RI:p≠d:=wb hp hd (by intro z;cases z)
 have JE:∀(o:HO),(∃fs,o=.ins c.rule dx fs)→(∀xs,o≠.tup xs)∧∀ob u,o≠.oR ob u:=fun o ⟨fs,e⟩=>⟨(by intro xs z;rw [e] at z;cases z),(by intro ob u z;rw [e] at z;cases z)⟩
 refine⟨_,rfl,_,rfl,p,c.rule,dx,[],rfl,hp,T.cl,T.n1,(by show 0<1000;decide),?_⟩
 have key:∀(H1:Hp) (Ew:List (Str × V)) (n:Str),H1 p=some (.ins c.rule dx Ew)→H1 d=some (.dK kvs)→bU K c H0 H1 L kvs→(∀b,H1 b=none→H0 b=none)→(∀b o,H b=some o→b≠p→H1 b=some o) →
   ∀l,H1 l=none→∀y:V,(upd (upd H1 l (.lst [])) p (.ins c.rule dx (bp n y Ew))) p=some (.ins c.rule dx (bp n y Ew))∧(upd (upd H1 l (.lst [])) p (.ins c.rule dx (bp n y Ew))) d=some (.dK kvs) ∧
    Kp H0 H1 (upd (upd H1 l (.lst [])) p (.ins c.rule dx (bp n y Ew)))∧H0 l=none∧upd H1 l (.lst []) l=some (.lst [])∧upd H1 l (.lst []) d=some (.dK kvs)∧upd H1 l (.lst []) p=some (.ins c.rule dx Ew)∧bU K c H0 (upd H1 l (.lst [])) L kvs ∧
    (∀b o,H b=some o→b≠p→(upd (upd H1 l (.lst [])) p (.ins c.rule dx (bp n y Ew))) b=some o)∧Kp H0 (upd H1 l (.lst [])) (upd (upd H1 l (.lst [])) p (.ins c.rule dx (bp n y Ew))):=by
  intro H1 Ew n Ux RJ O9 Lq Uy l hl y
  have s1:=ai hl (.lst [])
  have RK:=s1 _ _ Ux
  have Gy:Kp H0 (upd H1 l (.lst [])) (upd (upd H1 l (.lst [])) p (.ins c.rule dx (bp n y Ew))):=Kp.upd O8 RK (JE _ ⟨_,rfl⟩).1 (JE _ ⟨_,rfl⟩).2
  refine⟨ae,by rw [aw (Xl RI)];exact s1 _ _ RJ,(Kp.same s1).trans Gy,Lq l hl,ae,s1 _ _ RJ,RK,O9.keep (Kp.same s1),fun b o e hb=>?_,Gy⟩
  rw [aw hb]
  exact s1 _ _ (Uy b o e hb)
 have Jw:Kp H0 H (upd H p (.ins c.rule dx (bp "title" (tx title) []))):=Kp.upd O8 hp (JE _ ⟨_,rfl⟩).1 (JE _ ⟨_,rfl⟩).2
 have RL:(upd H p (.ins c.rule dx (bp "title" (tx title) []))) p=some (.ins c.rule dx (bp "title" (tx title) [])):=ae
 have Pa:(upd H p (.ins c.rule dx (bp "title" (tx title) []))) d=some (.dK kvs):=by rw [aw (Xl RI)];exact hd
 have RM:∀b o,H b=some o→b≠p→(upd H p (.ins c.rule dx (bp "title" (tx title) []))) b=some o:=fun b o e hb=>by rw [aw hb];exact e
 have IS:=pa.keep Jw
 have DP:∀b,(upd H p (.ins c.rule dx (bp "title" (tx title) []))) b=none→H0 b=none:=fun b h=>oW b (Jw.oW b h)
 generalize upd H p (.ins c.rule dx (bp "title" (tx title) []))=H1 at Jw RL Pa RM IS DP ⊢
 refine⟨_,rfl,d,rfl,.inl ⟨_,.inl Pa⟩,(by show 0≤Wt;decide),fun l1 Fd=>?_⟩
 obtain⟨Lr,Ls,IT,Pb,Pc,Pd,Pe,Pf,Lu,GO⟩:=key H1 _ "taken" RL Pa IS DP RM l1 Fd ((bt kvs (W3 (Wn "take"):Key)).getD (.ref l1))
 refine⟨_,iP.k (k:=(W3 (Wn "take"):Key)) Pd,_,rfl,p,c.rule,dx,_,rfl,Pe,T.cl,T.n2,(by show 1<1000;decide),?_⟩
 have v1:=(yL Pf h5 hok (n:=0) (by decide) Pb Pc).keep GO
 rw [show S (wordAt 0)=Wn "take" by decide +kernel] at v1
 have IU:=IS.keep IT
 have DQ:∀b,_=none→H0 b=none:=fun b h=>DP b (IT.oW b h)
 generalize V7:upd (upd H1 l1 (.lst [])) p (.ins c.rule dx (bp "taken" ((bt kvs (W3 (Wn "take"):Key)).getD (.ref l1)) (bp "title" (tx title) [])))=H2 at Lr Ls IT Lu GO IU DQ v1  ⊢
 have Uz:=Lr
 have RN:=Ls
 have UA:=Lu
 refine⟨_,rfl,d,rfl,.inl ⟨_,.inl RN⟩,(by show 0≤Wt;decide),fun l2 oU=>?_⟩
 obtain⟨Lv,Lw,Fy,Pg,Ph,Pj,Pk,Pl,Lx,GP⟩:=key H2 _ "kept" Uz RN IU DQ UA l2 oU ((bt kvs (W3 (Wn "keep"):Key)).getD (.ref l2))
 refine⟨_,iP.k (k:=(W3 (Wn "keep"):Key)) Pj,_,rfl,p,c.rule,dx,_,rfl,Pk,T.cl,T.n3,(by show 2<1000;decide),?_⟩
 have v2:=(yL Pl h5 hok (n:=1) (by decide) Pg Ph).keep GP
 rw [show S (wordAt 1)=Wn "keep" by decide +kernel] at v2
 have IV:=IU.keep Fy
 have DR:∀b,_=none→H0 b=none:=fun b h=>DQ b (Fy.oW b h)
 have v1:=v1.keep Fy
 generalize Rf:upd (upd H2 l2 (.lst [])) p (.ins c.rule dx (bp "kept" ((bt kvs (W3 (Wn "keep"):Key)).getD (.ref l2)) (bp "taken" ((bt kvs (W3 (Wn "take"):Key)).getD (.ref l1)) (bp "title" (tx title) []))))=H3 at Lv Lw Fy Lx GP IV DR v2 v1 ⊢
 have UB:=Lv
 have RO:=Lw
 have UC:=Lx
 refine⟨_,rfl,d,rfl,.inl ⟨_,.inl RO⟩,(by show 0≤Wt;decide),fun l3 BD=>?_⟩
 obtain⟨Ly,Lz,DS,Pm,Pn,Po,Pp,Pq,LC,GQ⟩:=key H3 _ "looks" UB RO IV DR UC l3 BD ((bt kvs (W3 (Wn "look"):Key)).getD (.ref l3))
 refine⟨_,iP.k (k:=(W3 (Wn "look"):Key)) Po,_,rfl,p,c.rule,dx,_,rfl,Pp,T.cl,T.n4,(by show 3<1000;decide),?_⟩
 have v3:=(Ij Pq h5 hok Pm Pn).keep GQ
 rw [show S (wordAt 2)=Wn "look" by decide +kernel] at v3
 have IW:=IV.keep DS
 have DT:∀b,_=none→H0 b=none:=fun b h=>DR b (DS.oW b h)
 have v1:=v1.keep DS
 have v2:=v2.keep DS
 generalize V8:upd (upd H3 l3 (.lst [])) p (.ins c.rule dx (bp "looks" ((bt kvs (W3 (Wn "look"):Key)).getD (.ref l3)) (bp "kept" ((bt kvs (W3 (Wn "keep"):Key)).getD (.ref l2)) (bp "taken" ((bt kvs (W3 (Wn "take"):Key)).getD (.ref l1)) (bp "title" (tx title) [])))))=H4 at Ly Lz DS LC GQ IW DT v3 v1 v2 ⊢
 have UD:=Ly
 have RP:=Lz
 have UE:=LC
 refine⟨_,rfl,d,rfl,.inl ⟨_,.inl RP⟩,(by show 0≤Wt;decide),fun l4 LD=>?_⟩
 obtain⟨LF,LG,BE,Pu,Pw,Px,Py,Pz,LH,GR⟩:=key H4 _ "given" UD RP IW DT UE l4 LD ((bt kvs (W3 (Wn "put"):Key)).getD (.ref l4))
 refine⟨_,iP.k (k:=(W3 (Wn "put"):Key)) Px,_,rfl,p,c.rule,dx,_,rfl,Py,T.cl,T.n5,(by show 4<1000;decide),?_⟩
 have v4:=(yL Pz h5 hok (n:=3) (by decide) Pu Pw).keep GR
 rw [show S (wordAt 3)=Wn "put" by decide +kernel] at v4
 have IX:=IW.keep BE
 have DU:∀b,_=none→H0 b=none:=fun b h=>DT b (BE.oW b h)
 have v1:=v1.keep BE
 have v2:=v2.keep BE
 have v3:=v3.keep BE
 generalize V9:upd (upd H4 l4 (.lst [])) p (.ins c.rule dx (bp "given" ((bt kvs (W3 (Wn "put"):Key)).getD (.ref l4)) (bp "looks" ((bt kvs (W3 (Wn "look"):Key)).getD (.ref l3)) (bp "kept" ((bt kvs (W3 (Wn "keep"):Key)).getD (.ref l2)) (bp "taken" ((bt kvs (W3 (Wn "take"):Key)).getD (.ref l1)) (bp "title" (tx title) []))))))=H5 at LF LG BE LH GR IX DU v4 v1 v2 v3 ⊢
 have UG:=LF
 have RQ:=LG
 have UH:=LH
 refine⟨_,rfl,d,rfl,.inl ⟨_,.inl RQ⟩,(by show 0≤Wt;decide),fun l5 LJ=>?_⟩
 obtain⟨LK,LL,yZ,PB,PD,PF,PJ,PK,LM,GS⟩:=key H5 _ "told" UG RQ IX DU UH l5 LJ ((bt kvs (W3 (Wn "tell"):Key)).getD (.ref l5))
 refine⟨_,iP.k (k:=(W3 (Wn "tell"):Key)) PF,_,rfl,p,c.rule,dx,_,rfl,PJ,T.cl,T.n6,(by show 5<1000;decide),?_⟩
 have v5:=(Ik PK h5 hok PB PD).keep GS
 rw [show S (wordAt 4)=Wn "tell" by decide +kernel] at v5
 have PL:=IX.keep yZ
 have DV:∀b,_=none→H0 b=none:=fun b h=>DU b (yZ.oW b h)
 have v1:=v1.keep yZ
 have v2:=v2.keep yZ
 have v3:=v3.keep yZ
 have v4:=v4.keep yZ
 generalize Wa:upd (upd H5 l5 (.lst [])) p (.ins c.rule dx (bp "told" ((bt kvs (W3 (Wn "tell"):Key)).getD (.ref l5)) (bp "given" ((bt kvs (W3 (Wn "put"):Key)).getD (.ref l4)) (bp "looks" ((bt kvs (W3 (Wn "look"):Key)).getD (.ref l3)) (bp "kept" ((bt kvs (W3 (Wn "keep"):Key)).getD (.ref l2)) (bp "taken" ((bt kvs (W3 (Wn "take"):Key)).getD (.ref l1)) (bp "title" (tx title) [])))))))=H6 at LK LL yZ LM GS PL DV v5 v1 v2 v3 v4 ⊢
 have Na:=LK
 have Wb:=LL
 have UI:=LM
 generalize ET:(bp "told" ((bt kvs (W3 (Wn "tell"):Key)).getD (.ref l5)) (bp "given" ((bt kvs (W3 (Wn "put"):Key)).getD (.ref l4)) (bp "looks" ((bt kvs (W3 (Wn "look"):Key)).getD (.ref l3)) (bp "kept" ((bt kvs (W3 (Wn "keep"):Key)).getD (.ref l2)) (bp "taken" ((bt kvs (W3 (Wn "take"):Key)).getD (.ref l1)) (bp "title" (tx title) []))))))=Ci at Na ⊢
 have lk:∀n:Str,Ci.lookup n=if n="told" then some ((bt kvs (W3 (Wn "tell"):Key)).getD (.ref l5)) else if n="given" then some ((bt kvs (W3 (Wn "put"):Key)).getD (.ref l4)) else if n="looks" then some ((bt kvs (W3 (Wn "look"):Key)).getD (.ref l3)) else if n="kept" then some ((bt kvs (W3 (Wn "keep"):Key)).getD (.ref l2)) else if n="taken" then some ((bt kvs (W3 (Wn "take"):Key)).getD (.ref l1)) else if n="title" then some (tx title) else none:=fun n=>by
  rw [← ET,aO,aO,aO,aO,aO,aO]
  rfl
 obtain⟨lt,ut,et,nt,ht,pt⟩:=id v1
 obtain⟨RS,uk,ek,nk,hk,pk⟩:=id v2
 have RU:Ci.lookup ("taken":Str)=some (.ref lt):=by
  rw [lk,if_neg (by decide +kernel),if_neg (by decide +kernel),if_neg (by decide +kernel),if_neg (by decide +kernel),if_pos rfl,et]
 have RV:Ci.lookup ("kept":Str)=some (.ref RS):=by
  rw [lk,if_neg (by decide +kernel),if_neg (by decide +kernel),if_neg (by decide +kernel),if_pos rfl,ek]
 have PM:Ci.length<1000:=by
  rw [← ET]
  show 6<1000
  decide
 have Wc:=WW pt
 have Wd:=WW pk
 have hfew:=Lp.few
 have PN:(jb title L).take++(jb title L).keep=rn 0 L++rn 1 L:=rfl
 rw [PN,Wq] at hfew
 refine⟨_,rfl,p,c.rule,dx,Ci,_,rfl,Na,T.cl,T.n2,RU,_,rfl,p,c.rule,dx,Ci,_,rfl,Na,T.cl,T.n3,RV,lt,RS,_,_,rfl,rfl,ht,hk,sz (by omega),fun l6 PQ=>?_⟩
 have s6:=ai PQ (.lst (ut++uk))
 refine⟨l6,_,rn 0 L++rn 1 L,rfl,ae,g5 (L2.Paired.cP pt fun _ _ z=>z.keep (H0:=H0) (Kp.same s6)) (L2.Paired.cP pk fun _ _ z=>z.keep (H0:=H0) (Kp.same s6)),by rw [Wq];omega,Lp.heads,Lp.OC,fun v7 H7 s7 T7=>?_⟩
 have PR:=aj.trans s6 s7
 have RX:=PR _ _ Na
 refine⟨_,rfl,p,c.rule,dx,Ci,rfl,RX,T.cl,T.n7,PM,?_⟩
 have RY:Kp H0 H7 (upd H7 p (.ins c.rule dx (bp "names" v7 Ci))):=Kp.upd O8 RX (JE _ ⟨_,rfl⟩).1 (JE _ ⟨_,rfl⟩).2
 have BF:Kp H0 H6 (upd H7 p (.ins c.rule dx (bp "names" v7 Ci))):=(Kp.same PR).trans RY
 have IY:∀n:Str,n≠"names"→(bp "names" v7 Ci).lookup n=Ci.lookup n:=fun n hn=>by rw [aO,if_neg hn]
 refine q _ (bp "names" v7 Ci) ae ⟨?_,⟨_,?_,v1.keep BF⟩,⟨_,?_,v2.keep BF⟩,⟨_,?_,v3.keep BF⟩,⟨_,?_,v4.keep BF⟩,⟨_,?_,v5.keep BF⟩,⟨v7,?_,?_⟩,?_⟩ (fun b o e hb=>?_)
 ·rw [IY _ (by decide +kernel),lk,if_neg (by decide +kernel),if_neg (by decide +kernel),if_neg (by decide +kernel),if_neg (by decide +kernel),if_neg (by decide +kernel),if_pos rfl]
  rfl
 ·rw [IY _ (by decide +kernel),RU,et]
 ·rw [IY _ (by decide +kernel),RV,ek]
 ·rw [IY _ (by decide +kernel),lk,if_neg (by decide +kernel),if_neg (by decide +kernel),if_pos rfl]
 ·rw [IY _ (by decide +kernel),lk,if_neg (by decide +kernel),if_pos rfl]
 ·rw [IY _ (by decide +kernel),lk,if_pos rfl]
 ·rw [aO,if_pos rfl]
 ·obtain⟨ln,en,nn,hn⟩:=T7
  have RZ:H6 ln=none:=s6.free nn
  exact⟨ln,en,DV ln RZ,RY.new _ _ (DV ln RZ) hn⟩
 ·rw [IY _ (by decide +kernel),lk,if_neg (by decide +kernel),if_neg (by decide +kernel),if_neg (by decide +kernel),if_neg (by decide +kernel),if_neg (by decide +kernel),if_neg (by decide +kernel)]
 ·rw [aw hb]
  exact PR _ _ (UI b o e hb)
theorem rD:aC ["self"] ["self"] (av hW):=⟨rfl,rfl,rfl,by decide +kernel,rfl,by decide +kernel,by decide +kernel⟩
theorem rE (F:du K "calls" "Rule.calls" hW f fd) (T:uo K c.rule) (bo:mg "len"=none):aU P w K mg base fK 1 f fd ["self"] (uq K c):=by
 refine F.ok rD (fun vs H Q E h=>?_) (fun cE A outer s H vs Q E hr h=>?_)
 ·obtain⟨H0,v,r,rfl,_⟩:=h
  rfl
 obtain⟨H0,v,r,rfl,hR,q⟩:=h
 obtain⟨a,dx,fs,rfl,n,h1,RF⟩:=hR
 obtain⟨vt,ev,lt,us,rfl,nt,ht,pt⟩:=RF.taken
 have zl:=WW pt
 refine⟨_,(ao (aF (cN dm (aJ aD rfl bo W0 (aa (pe_fld (pv 0) rfl) ag)) ak (aK _)))),?_⟩
 refine⟨_,rfl,a,c.rule,dx,fs,_,rfl,h1,T.cl,T.n2,ev,lt,_,rfl,.inl (aI.of ht),rfl,?_⟩
 have e:decide (V.int (us.length:Int)=V.int 0)=decide (r.take=[]):=by
  rw [decide_eq_decide]
  constructor
  ·intro z
   have z':(us.length:Int)=0:=by injection z
   exact List.eq_nil_of_length_eq_zero (by omega)
  ·intro z
   rw [z] at zl
   rw [← zl]
   rfl
 rw [e]
 exact q
theorem uM:aC ["self","kinds","rules"] ["self","kinds","rules"] (av jn):=⟨rfl,rfl,rfl,by decide +kernel,rfl,by decide +kernel,by decide +kernel⟩
theorem uN (F:du K "__init__" "Book.__init__" jn f fd) (T:Il K c.book):aU P w K mg base fK 1 f fd ["self","kinds","rules"] (o6 K c):=by
 refine F.ok uM (fun vs H Q E h=>?_) (fun cE A outer s H vs Q E hr h=>?_)
 ·obtain⟨p,dx,l,r,rfl,_⟩:=h
  rfl
 obtain⟨p,dx,l,r,rfl,hp,q⟩:=h
 refine⟨_,(af (ps_fld (pv 0) (pv 1) rfl)
 (ao (ps_fld (pv 0) (pv 2) rfl))),?_⟩
 refine⟨_,rfl,_,rfl,p,c.book,dx,[],rfl,hp,T.cl,T.n1,(by show 0<1000;decide),_,rfl,_,rfl,p,c.book,dx,_,rfl,ae,T.cl,T.n2,(by show 1<1000;decide),?_⟩
 refine q _ _ ae ?_ ?_ fun b o e hb=>?_
 ·rw [aO,if_neg (by decide +kernel),aO,if_pos rfl]
 ·rw [aO,if_pos rfl]
 ·rw [aw hb,aw hb]
  exact e
end
end iR
namespace iR
open PySem L2 bB Bk
set_option maxHeartbeats 4000000
section
variable {P:WM} {w:Xj} {K:Wo} {mg:Str→Option Wr} {base:Heap} {f:WA} {fd:Xk} {c:Cl}
theorem bJ {α:Type} {l:List α} {i:Nat} {x:α} (h:l[i]?=some x):∃hi:i<l.length,l[i]=x:=Wv.mp h
theorem fE:aC ["kinds","facts","counts","fact"] ["kinds","facts"] (av fV):=⟨rfl,rfl,rfl,by decide +kernel,rfl,by decide +kernel,by decide +kernel⟩
theorem qk (F:du K "check_facts" "check_facts" fV f fd) (IZ:mg "dict"=none) (bo:mg "len"=none):aU P w K mg base fK 1 f fd ["kinds","facts"] (w6 K):=by
 refine F.ok fE (fun vs H Q E h=>?_) (fun cE A outer s H vs Q E hr h=>?_)
 ·obtain⟨lk,lf,kvs,Dk,ks,fs,rfl,_⟩:=h
  rfl
 obtain⟨lk,lf,kvs,Dk,ks,fs,rfl,hk,pk,nd,fk,hf,pf,hfit,q⟩:=h
 have hu:=wA hr
 refine⟨_,(af (ay (i:=2) fE.nd rfl (W6 rfl) (gw (oA rfl) rfl IZ PyProof.Rows.Boot.«dict» (aa (dc [] rfl (by kernel_rfl) (bj (pv 0)) (fun _ _ _ _ _=>cT) (fun _ _ _ _ _=>(dI (aa (aA (r:=yy K) bE (pv 0) ak (fun _ _=>rfl)) (aa (aA (r:=yy K) bE (pv 0) ak (fun _ _=>rfl)) ag))))) ag)))
 (ao (dk Xn rfl (bj (pv 1)) (b8 (i:=3) fE.nd rfl (W6 rfl))
 (af (aX (yi (mI hu (aA bE (pv 3) ak (fun _ _=>rfl)) (pv 2)))
 gu
 aE)
 (ao (aX (aB gv (aJ aD rfl bo W0 (aa (aA bE (pv 3) ak (fun _ _=>rfl)) ag)) (E7 hu (pv 2) (aA bE (pv 3) ak (fun _ _=>rfl)) (fun _ _=>rfl)) (aK _))
 gu
 aE)))))),?_⟩
 have zl:=WW pk
 have zf:=WW pf
 refine⟨_,rfl,lk,rfl,⟨_,aI.of hk⟩,fun D hD=>?_⟩
 refine i9 (K:=K) (xs:=kvs) ks (fun _ H k y=>∃t,y=.ref t∧da K H t [tx k.n,.int k.c]) (fun _ _ _ _ _ k ⟨t,e,h⟩=>⟨t,e,da.keep k h⟩) (fun _ _ _ _ _ _ h=>h) (lu (by omega)) hD (aI.of hk) zl (fun i x b H' R hx hb sm hQ=>?_) (fun H1 ys s1 hL po=>?_)
 ·obtain⟨hi,ex⟩:=bJ hx
  obtain⟨lL,eb⟩:=bJ hb
  obtain⟨t,et,ht⟩:=paired_at pk i lL hi
  rw [ex] at et
  rw [eb] at ht
  subst et
  have ht':=ht.same sm
  exact⟨_,rfl,t,_,0,_,rfl,rfl,ht',rfl,_,rfl,t,_,1,_,rfl,rfl,ht',rfl,(by show 2≤Wt;decide),fun t2 DK=>hQ _ _ (ai DK _) ⟨t2,rfl,da.of ae⟩⟩
 refine⟨D,ys,ks.map nN,rfl,hL,nO po,(by rw [Lm9];omega),fun d hd=>?_⟩
 rw [lP _ _ (nP nd),YO]
 have s2:aj H (upd H1 d (.dK (ks.map nN))):=aj.trans s1 (ai hd _)
 have Jz:=ae (H:=H1) (a:=d) (o:=.dK (ks.map nN))
 generalize upd H1 d (.dK (ks.map nN))=H2 at s2 Jz ⊢
 refine⟨_,rfl,lf,rfl,⟨_,aI.of (s2 _ _ hf)⟩,cf (K:=K) (a:=lf) (xs:=Dk) (fun i σ H'=>H'=H2∧∃o,σ=[some (.ref lk),some (.ref lf),some (.ref d),o]) ⟨rfl,none,rfl⟩ (fun i σ H' _ ⟨e,_⟩=>by rw [e];exact aI.of (s2 _ _ hf)) ?_ ?_⟩
 ·rintro i y σ H' hi ⟨rfl,o,rfl⟩
  obtain⟨DN,ey⟩:=bJ hi
  have GU:i<fs.length:=by omega
  obtain⟨t,t2,et,h1,h2⟩:=paired_at pf i GU DN
  rw [ey] at et
  subst et
  obtain⟨k,UJ,UK,UL⟩:=hfit fs[i] (WT GU)
  have LN:bt (ks.map nN) (W3 (S fs[i].k):Key)=some (.int k.c):=by
   rw [← UK]
   exact sX (nP nd) (Xu.mpr ⟨k,UJ,rfl⟩)
  have h1':=h1.same s2
  have h2':=h2.same s2
  refine⟨_,rfl,t,_,0,_,rfl,rfl,h1',rfl,_,rfl,d,_,rfl,iP.k (k:=(W3 (S fs[i].k):Key)) Jz,_,rfl,?_⟩
  rw [LN]
  refine a7 ?_
  refine⟨_,rfl,t,_,1,_,rfl,rfl,h1',rfl,t2,_,rfl,.inr h2',_,rfl,_,rfl,t,_,0,_,rfl,rfl,h1',rfl,d,_,rfl,(by have z:=iP.k (k:=(W3 (S fs[i].k):Key)) Jz;rw [LN] at z;exact z),rfl,_,rfl,?_⟩
  rw [Lm9,UL,decide_eq_true rfl]
  exact a7 ⟨rfl,_,rfl⟩
 ·rintro σ H' ⟨rfl,o,rfl⟩
  exact q _ s2
theorem jt:aC ["lasts","taken","fact"] ["lasts","taken"] (av fW):=⟨rfl,rfl,rfl,by decide +kernel,rfl,by decide +kernel,by decide +kernel⟩
theorem qm (F:du K "check_taken" "check_taken" fW f fd):aU P w K mg base fK 1 f fd ["lasts","taken"] (w9 K):=by
 refine F.ok jt (fun vs H Q E h=>?_) (fun cE A outer s H vs Q E hr h=>?_)
 ·obtain⟨ll,lf,Dk,ls,fs,rfl,_⟩:=h
  rfl
 obtain⟨ll,lf,Dk,ls,fs,rfl,hl,hf,pf,cy,q⟩:=h
 refine⟨_,(ao (dk Xn rfl (bj (pv 1)) (b8 (i:=2) jt.nd rfl (W6 rfl))
 (ao (aX (aB mD (aA bE (pv 2) ak (fun _ _=>rfl)) (pv 0) (by with_unfolding_all rfl))
 gu
 aE)))),?_⟩
 have zf:=WW pf
 refine⟨_,rfl,lf,rfl,⟨_,aI.of hf⟩,cf (K:=K) (a:=lf) (xs:=Dk) (fun i σ H'=>H'=H∧∃o,σ=[some (.ref ll),some (.ref lf),o]) ⟨rfl,none,rfl⟩ (fun i σ H' _ ⟨e,_⟩=>by rw [e];exact aI.of hf) ?_ ?_⟩
 ·rintro i y σ H' hi ⟨rfl,o,rfl⟩
  obtain⟨DN,ey⟩:=bJ hi
  have GU:i<fs.length:=by omega
  obtain⟨t,t2,et,h1,h2⟩:=paired_at pf i GU DN
  rw [ey] at et
  subst et
  refine⟨_,rfl,t,_,0,_,rfl,rfl,h1,rfl,_,rfl,ll,_,rfl,.inl (aI.of hl),rfl,jc _,_,rfl,?_⟩
  rw [fM,decide_eq_false (cy _ (WT GU))]
  exact a7 ⟨rfl,_,rfl⟩
 ·rintro σ H' ⟨rfl,o,rfl⟩
  exact q
theorem jV:aC ["lasts","rule","fact"] ["lasts","rule"] (av ie):=⟨rfl,rfl,rfl,by decide +kernel,rfl,by decide +kernel,by decide +kernel⟩
theorem rF (F:du K "check_call" "check_call" ie f fd) (T:uo K c.rule) (nh:Met P w K mg base c.rule "calls" 1 ["self"] (uq K c)):aU P w K mg base fK 2 f fd ["lasts","rule"] (xa K c):=by
 refine F.ok jV (fun vs H Q E h=>?_) (fun cE A outer s H vs Q E hr h=>?_)
 ·obtain⟨H0,ll,v,ls,r,rfl,_⟩:=h
  rfl
 obtain⟨H0,ll,v,ls,r,rfl,hl,hR,oV,q⟩:=h
 refine⟨_,(af (aX (ki (dj (Ba (pv 1) nh (hr.mono (by decide)))))
 (ao EB)
 aE)
 (ao (dk Xn rfl (bj (pe_fld (pv 1) rfl)) (b8 (i:=2) jV.nd rfl (W6 rfl))
 (ao (aX (aB dn (aA bE (pv 2) ak (fun _ _=>rfl)) (pv 0) (by with_unfolding_all rfl))
 gu
 aE))))),?_⟩
 obtain⟨a,dx,fs,rfl,na,ha,RF⟩:=id hR
 refine⟨_,rfl,a,dx,fs,rfl,ha,RF.calls,H0,_,r,rfl,hR,_,rfl,?_⟩
 by_cases e:r.take=[]
 ·rw [decide_eq_true e]
  refine a7 ?_
  obtain⟨vg,ev,lg,us,rfl,ng,hg,pg⟩:=RF.given
  have zg:=WW pg
  refine⟨_,rfl,a,c.rule,dx,fs,_,rfl,ha,T.cl,T.n5,ev,lg,rfl,⟨_,aI.of hg⟩,cf (K:=K) (a:=lg) (xs:=us) (fun i σ H'=>H'=H∧∃o,σ=[some (.ref ll),some (.ref a),o]) ⟨rfl,none,rfl⟩ (fun i σ H' _ ⟨e,_⟩=>by rw [e];exact aI.of hg) ?_ ?_⟩
  ·rintro i y σ H' hi ⟨rfl,o,rfl⟩
   obtain⟨DN,ey⟩:=bJ hi
   have GU:i<r.put.length:=by omega
   obtain⟨t,t2,et,h1,h2⟩:=paired_at pg i GU DN
   rw [ey] at et
   subst et
   refine⟨_,rfl,t,_,0,_,rfl,rfl,h1,rfl,_,rfl,ll,_,rfl,.inl (aI.of hl),rfl,jc _,_,rfl,?_⟩
   rw [fM,decide_eq_true (oV e _ (WT GU))]
   exact a7 ⟨rfl,_,rfl⟩
  ·rintro σ H' ⟨rfl,o,rfl⟩
   exact q
 ·rw [decide_eq_false e]
  exact bF q
theorem c0:aC ["rule","said","look","fact","pair"] ["rule"] (av ig):=⟨rfl,rfl,rfl,by decide +kernel,rfl,by decide +kernel,by decide +kernel⟩
theorem rG (F:du K "said_names" "said_names" ig f fd) (T:uo K c.rule) (Ts:wX K c.same) (Tu:wX K c.unlike):aU P w K mg base fK 1 f fd ["rule"] (Dl K c):=by
 refine F.ok c0 (fun vs H Q E h=>?_) (fun cE A outer s H vs Q E hr h=>?_)
 ·obtain⟨H0,v,r,rfl,_⟩:=h
  rfl
 obtain⟨H0,v,r,rfl,hR,hz,q⟩:=h
 refine⟨_,(af (ay (i:=1) c0.nd rfl (W6 rfl) (aL ag))
 (af (dk Xn rfl (bj (pe_fld (pv 0) rfl)) (b8 (i:=2) c0.nd rfl (W6 rfl))
 (ao (bu (dg WZ XZ YE A5 (pv 1) (aa (aL (aa (pe_fld (pv 2) rfl) (aa (pe_fld (pv 2) rfl) ag))) ag)))))
 (af (dk Xn rfl (bj (pe_fld (pv 0) rfl)) (b8 (i:=3) c0.nd rfl (W6 rfl))
 (ao (bu (dg WZ XZ YE pL (pv 1) (aa (aA bE (pv 3) ak (fun _ _=>rfl)) ag)))))
 (af (dk Xn rfl (bj (pe_fld (pv 0) rfl)) (b8 (i:=4) c0.nd rfl (W6 rfl))
 (ao (bu (dg WZ XZ YE pL (pv 1) (aa (pv 4) ag)))))
 (ao (aF (pv 1))))))),?_⟩
 obtain⟨a,dx,fs,rfl,na,ha,RF⟩:=id hR
 obtain⟨vl,el,ll,ul,rfl,nl,hl,pl⟩:=RF.cz
 obtain⟨vg,eg,lg,ug,rfl,ng,hg,pg⟩:=RF.given
 obtain⟨vt,et,lt,ut,rfl,nt,ht,pt⟩:=RF.told
 have hz':=hz
 unfold dy at hz'
 rw [Wq,Wq] at hz'
 refine⟨(by show 0≤Wt;decide),fun ls Ex=>?_⟩
 have s0:=ai Ex (.lst [])
 have zl:=WW pl
 have zg:=WW pg
 have zt:=WW pt
 have DW:∀b,yn K (c.look b)∧cA K (c.look b) "left"∧cA K (c.look b) "right":=fun b=>by
  cases b with
  | true=>exact⟨Ts.cl,Ts.nL,Ts.nR⟩
  | false=>exact⟨Tu.cl,Tu.nL,Tu.nR⟩
 refine⟨_,rfl,a,c.rule,dx,fs,_,rfl,s0 _ _ ha,T.cl,T.n4,el,ll,rfl,⟨_,aI.of (s0 _ _ hl)⟩,cf (K:=K) (a:=ll) (xs:=ul) (fun i σ H'=>aj H H'∧H' ls=some (.lst (((r.cz.take i).flatMap fun k=>[k.l,k.r]).map tx))∧((r.cz.take i).flatMap fun k=>[k.l,k.r]).length≤(r.cz.flatMap fun k=>[k.l,k.r]).length∧∃o2 o3 o4,σ=[some (.ref a),some (.ref ls),o2,o3,o4])
  ⟨s0,ae,Xs _,none,none,none,rfl⟩ (fun i σ H' _ ⟨sm,_⟩=>aI.of (sm _ _ hl)) ?_ ?_⟩
 ·rintro i y σ H' hi ⟨sm,hs,hlen,o2,o3,o4,rfl⟩
  obtain⟨v8,ey⟩:=bJ hi
  have Cj:i<r.cz.length:=by omega
  obtain⟨b,LO,fb,eb,nb,hb,f1,f2,f3,f4⟩:=paired_at pl i Cj v8
  rw [ey] at eb
  subst eb
  obtain⟨C1,C2,C3⟩:=DW r.cz[i].same
  have hb':=sm _ _ hb
  refine⟨_,rfl,.inl ⟨rfl,_,aI.of hs⟩,_,rfl,b,_,LO,fb,_,rfl,hb',C1,C2,f1,_,rfl,b,_,LO,fb,_,rfl,hb',C1,C3,f2,(by show 2≤Wt;decide),fun l2 oU=>?_⟩
  have n2:ls≠l2:=au hs oU
  have Gp:upd H' l2 (.lst [tx r.cz[i].l,tx r.cz[i].r]) ls=some (.lst (((r.cz.take i).flatMap fun k=>[k.l,k.r]).map tx)):=by rw [aw n2];exact hs
  have I0:H l2=none:=sm.free oU
  have e1:(r.cz.take (i+1)).flatMap (fun k=>[k.l,k.r])=(r.cz.take i).flatMap (fun k=>[k.l,k.r])++[r.cz[i].l,r.cz[i].r]:=by
   rw [WB Cj,XR]
   simp
  have e2:=mR (fun k:Lk=>[k.l,k.r]) r.cz (i+1)
  refine⟨ls,l2,_,_,rfl,rfl,Gp,ae,(by rw [Lm9];exact sz (by simp only [WC,Xv];omega)),aj.aS (aj.aS sm I0 _) Ex _,?_,e2,_,_,_,rfl⟩
  rw [ae,e1,WQ]
  rfl
 rintro σ H1 ⟨s1,PU,-,o2,o3,o4,rfl⟩
 have UM:ul.length=r.cz.length:=zl.symm
 rw [UM,XN] at PU
 generalize hA:(r.cz.flatMap fun k=>[k.l,k.r])=LA at PU hz'
 refine⟨_,rfl,a,c.rule,dx,fs,_,rfl,s1 _ _ ha,T.cl,T.n5,eg,lg,rfl,⟨_,aI.of (s1 _ _ hg)⟩,cf (K:=K) (a:=lg) (xs:=ug) (fun i σ H'=>aj H H'∧H' ls=some (.lst ((LA++((r.put.take i).flatMap (·.as))).map tx))∧∃o2 o3 o4,σ=[some (.ref a),some (.ref ls),o2,o3,o4])
  ⟨s1,by rw [List.take_zero,List.flatMap_nil,Xh];exact PU,_,_,_,rfl⟩ (fun i σ H' _ ⟨sm,_⟩=>aI.of (sm _ _ hg)) ?_ ?_⟩
 ·rintro i y σ H' hi ⟨sm,hs,o2,o3,o4,rfl⟩
  obtain⟨v8,ey⟩:=bJ hi
  have Cj:i<r.put.length:=by omega
  obtain⟨t,t2,e3,h1,h2⟩:=paired_at pg i Cj v8
  rw [ey] at e3
  subst e3
  have e1:(r.put.take (i+1)).flatMap (·.as)=(r.put.take i).flatMap (·.as)++r.put[i].as:=by
   rw [WB Cj,XR]
   simp
  have e2:=mR (fun f:Fc=>f.as) r.put (i+1)
  rw [e1,Wq] at e2
  refine⟨_,rfl,.inl ⟨rfl,_,aI.of hs⟩,_,rfl,t,_,1,_,rfl,rfl,h1.same sm,rfl,ls,t2,_,_,rfl,rfl,hs,h2.same sm,(by rw [Lm9,Lm9,Wq];exact sz (by omega)),aj.aS sm Ex _,?_,_,_,_,rfl⟩
  rw [ae,e1,← WK,WQ (l₁:=LA++_)]
 rintro σ H2 ⟨s2,Gp,o2,o3,o4,rfl⟩
 have UN:ug.length=r.put.length:=zg.symm
 rw [UN,XN] at Gp
 generalize hB:r.put.flatMap (·.as)=LB at Gp hz'
 refine⟨_,rfl,a,c.rule,dx,fs,_,rfl,s2 _ _ ha,T.cl,T.n6,et,lt,rfl,⟨_,aI.of (s2 _ _ ht)⟩,cf (K:=K) (a:=lt) (xs:=ut) (fun i σ H'=>aj H H'∧H' ls=some (.lst ((LA++(LB++((r.tell.take i).flatMap fun p=>[p.1,p.2]))).map tx))∧∃o2 o3 o4,σ=[some (.ref a),some (.ref ls),o2,o3,o4])
  ⟨s2,by rw [List.take_zero,List.flatMap_nil,Xh];exact Gp,_,_,_,rfl⟩ (fun i σ H' _ ⟨sm,_⟩=>aI.of (sm _ _ ht)) ?_ ?_⟩
 ·rintro i y σ H' hi ⟨sm,hs,o2,o3,o4,rfl⟩
  obtain⟨v8,ey⟩:=bJ hi
  have Cj:i<r.tell.length:=by omega
  obtain⟨t,e3,h1⟩:=paired_at pt i Cj v8
  rw [ey] at e3
  subst e3
  have e1:(r.tell.take (i+1)).flatMap (fun p=>[p.1,p.2])=(r.tell.take i).flatMap (fun p=>[p.1,p.2])++[r.tell[i].1,r.tell[i].2]:=by
   rw [WB Cj,XR]
   simp
  have e2:=mR (fun p:Cs × Cs=>[p.1,p.2]) r.tell (i+1)
  rw [e1,Wq] at e2
  refine⟨_,rfl,.inl ⟨rfl,_,aI.of hs⟩,_,rfl,ls,t,_,_,rfl,rfl,hs,h1.same sm,(by rw [Lm9,Wq,Wq];exact sz (by simp only [WC,Xv] at e2 ⊢;omega)),aj.aS sm Ex _,?_,_,_,_,rfl⟩
  rw [ae,e1,← WK,← WK,← WK,WQ (l₁:=LA++LB++_)]
  rfl
 rintro σ H3 ⟨s3,R0,o2,o3,o4,rfl⟩
 have UO:ut.length=r.tell.length:=zt.symm
 rw [UO,XN] at R0
 refine⟨_,rfl,q _ _ s3 ⟨ls,rfl,Ex,?_⟩⟩
 unfold dy
 rw [hA,hB]
 exact R0
theorem ju:aC ["rule","name"] ["rule"] (av fY):=⟨rfl,rfl,rfl,by decide +kernel,rfl,by decide +kernel,by decide +kernel⟩
theorem qo (F:du K "check_names" "check_names" fY f fd) (T:uo K c.rule) (ir:gD P w K mg base "said_names" 1 ["rule"] (Dl K c)) (dQ:gD P w K mg base "is_great" 1 ["name"] um):aU P w K mg base fK 2 f fd ["rule"] (xc K c):=by
 refine F.ok ju (fun vs H Q E h=>?_) (fun cE A outer s H vs Q E hr h=>?_)
 ·obtain⟨H0,v,r,rfl,_⟩:=h
  rfl
 obtain⟨H0,v,r,rfl,hR,hz,DL,UP,q⟩:=h
 refine⟨_,(ao (dk Xn rfl (bj (ax ir (hr.mono (by decide)) rfl (aa (pv 0) ag))) (b8 (i:=1) ju.nd rfl (W6 rfl))
 (ao (aX (PW.pt (gR (dj (ax dQ (hr.mono (by decide)) rfl (aa (pv 1) ag))) (gQ (aB dn (pv 1) (pe_fld (pv 0) rfl) (by with_unfolding_all rfl)))))
 gu
 aE)))),?_⟩
 refine⟨_,rfl,H0,v,r,rfl,hR,hz,fun u H1 s1 T1=>?_⟩
 obtain⟨l,rfl,uI,hl⟩:=T1
 obtain⟨a,dx,fs,rfl,na,ha,RF⟩:=id hR
 obtain⟨vn,en,ln,rfl,nn,hn⟩:=RF.names
 refine⟨l,rfl,⟨_,aI.of hl⟩,cf (K:=K) (a:=l) (xs:=(dy r).map tx) (fun i σ H'=>H'=H1∧∃o,σ=[some (.ref a),o]) ⟨rfl,none,rfl⟩ (fun i σ H' _ ⟨e,_⟩=>by rw [e];exact aI.of hl) ?_ ?_⟩
 ·rintro i y σ H' hi ⟨rfl,o,rfl⟩
  obtain⟨v8,ey⟩:=bJ hi
  rw [Lm9] at v8
  rw [Xw] at ey
  subst ey
  have hmem:(dy r)[i]∈dy r:=WT v8
  have hlen:=sT (DL _ hmem)
  refine⟨_,rfl,(dy r)[i],rfl,(fun z=>by rw [z] at hlen;simp at hlen),by omega,_,rfl,?_⟩
  refine iN (fun g=>?_) (fun g=>a7 ⟨rfl,_,rfl⟩)
  refine⟨_,rfl,_,rfl,a,c.rule,dx,fs,_,rfl,s1 _ _ ha,T.cl,T.n7,en,ln,_,rfl,.inl (aI.of (s1 _ _ hn)),rfl,jc _,_,rfl,?_⟩
  rw [fM,decide_eq_true (UP _ hmem g)]
  exact a7 ⟨rfl,_,rfl⟩
 ·rintro σ H' ⟨rfl,o,rfl⟩
  exact q _ s1
end
end iR
namespace iR
open PySem L2 bB Bk
set_option maxHeartbeats 4000000
section
variable {P:WM} {w:Xj} {K:Wo} {mg:Str→Option Wr} {base:Heap} {f:WA} {fd:Xk} {c:Cl}
theorem f9:aC ["kinds","rules","lasts","rule"] ["kinds","rules"] (av ib):=⟨rfl,rfl,rfl,by decide +kernel,rfl,by decide +kernel,by decide +kernel⟩
theorem rH (F:du K "whole_book" "whole_book" ib f fd) (T:uo K c.rule) (gf:gD P w K mg base "check_facts" 1 ["kinds","facts"] (w6 K)) (gh:gD P w K mg base "check_taken" 1 ["lasts","taken"] (w9 K)) (iu:gD P w K mg base "check_call" 2 ["lasts","rule"] (xa K c))
  (gj:gD P w K mg base "check_names" 2 ["rule"] (xc K c)) (y7:E1 P w K mg base "Book" c.book 1 ["self","kinds","rules"] (o6 K c)):aU P w K mg base fK 3 f fd ["kinds","rules"] (Af K c):=by
 refine F.ok f9 (fun vs H Q E h=>?_) (fun cE A outer s H vs Q E hr h=>?_)
 ·obtain⟨H0,lk,lr,ks,rs,kvs,jU,rfl,_⟩:=h
  rfl
 obtain⟨H0,lk,lr,ks,rs,kvs,jU,rfl,I,nd,good,q⟩:=h
 refine⟨_,(af (zW (i:=2) [] f9.nd rfl (W6 rfl) rfl (by kernel_rfl) (bj (pv 0)) (fun _ _ _ _ _=>(ud (dj (aA (r:=yy K) bE (pv 0) ak (fun _ _=>rfl))))) (fun _ _ _ _ _=>(aA (r:=yy K) bE (pv 0) ak (fun _ _=>rfl))))
 (af (dk Xn rfl (bj (pv 1)) (b8 (i:=3) f9.nd rfl (W6 rfl))
 (af (bu (ax gf (hr.mono (by decide)) rfl (aa (pv 0) (aa (ar cB (ar cB (pe_fld (pv 3) rfl) (pe_fld (pv 3) rfl)) (pe_fld (pv 3) rfl)) ag))))
 (af (bu (ax gh (hr.mono (by decide)) rfl (aa (pv 2) (aa (pe_fld (pv 3) rfl) ag))))
 (af (bu (ax iu (hr.mono (by decide)) rfl (aa (pv 2) (aa (pv 3) ag))))
 (ao (bu (ax gj (hr.mono (by decide)) rfl (aa (pv 3) ag))))))))
 (ao (aF (lG y7 (hr.mono (by decide)) rfl (aa (pv 0) (aa (pv 1) ag))))))),?_⟩
 have zk:=WW I.pk
 have zr:=WW I.pr
 refine⟨_,rfl,lk,rfl,⟨_,aI.of I.hk⟩,fun D hD=>?_⟩
 refine sW (K:=K) (xs:=kvs) ks (·.l) (·.n) (fun _ _ b y=>y=tx b) (fun _ _ _ _ _ _ h=>h) (fun _ _ _ _ _ _ h=>h) (lu (by have:=I.fk;omega)) hD (aI.of I.hk) zk (fun i x b H' R hx hb sm hQ=>?_) (fun i x b H' R hx hb hk sm hQ=>?_) (fun H1 ys s1 hL po=>?_)
 ·obtain⟨hi,ex⟩:=bJ hx
  obtain⟨lL,eb⟩:=bJ hb
  obtain⟨t,et,ht⟩:=paired_at I.pk i lL hi
  rw [ex] at et
  rw [eb] at ht
  subst et
  exact⟨_,rfl,t,_,2,_,rfl,rfl,ht.same sm,rfl,_,rfl,hQ _ (aj.refl _)⟩
 ·obtain⟨hi,ex⟩:=bJ hx
  obtain⟨lL,eb⟩:=bJ hb
  obtain⟨t,et,ht⟩:=paired_at I.pk i lL hi
  rw [ex] at et
  rw [eb] at ht
  subst et
  exact⟨_,rfl,t,_,0,_,rfl,rfl,ht.same sm,rfl,hQ _ _ (aj.refl _) rfl⟩
 rw [dM po] at hL
 refine⟨_,rfl,lr,rfl,⟨_,aI.of (s1 _ _ I.hr)⟩,cf (K:=K) (a:=lr) (xs:=jU) (fun i σ H'=>aj H1 H'∧∃o,σ=[some (.ref lk),some (.ref lr),some (.ref D),o]) ⟨aj.refl _,none,rfl⟩ (fun i σ H' _ ⟨sm,_⟩=>aI.of (sm _ _ (s1 _ _ I.hr))) ?_ ?_⟩
 ·rintro i y σ H' hi ⟨sm,o,rfl⟩
  obtain⟨v8,ey⟩:=bJ hi
  have R1:i<rs.length:=by omega
  have sA:=aj.trans s1 sm
  have PV:=paired_at I.pr i R1 v8
  rw [ey] at PV
  have g:=good _ (WT R1)
  generalize rs[i]=r at PV g
  have hR:=PV.keep (Kp.same sA)
  obtain⟨a,dx,fs,rfl,na,ha,RF⟩:=id hR
  obtain⟨vt,ev,lt,ut,rfl,nt,ht,pt⟩:=RF.taken
  obtain⟨vk,ek,lp,uk,rfl,nk,hk,pk⟩:=RF.kept
  obtain⟨vg,eg,lg,ug,rfl,ng,hg,pg⟩:=RF.given
  have zt:=WW pt
  have We:=WW pk
  have zg:=WW pg
  have hfew:=g.OE
  rw [Wq,Wq] at hfew
  refine⟨_,rfl,_,rfl,a,c.rule,dx,fs,_,rfl,ha,T.cl,T.n2,ev,_,rfl,a,c.rule,dx,fs,_,rfl,ha,T.cl,T.n3,ek,lt,lp,_,_,rfl,rfl,ht,hk,sz (by omega),fun p1 I8=>?_⟩
  have PX:=ai I8 (.lst (ut++uk))
  refine⟨_,rfl,a,c.rule,dx,fs,_,rfl,PX _ _ ha,T.cl,T.n5,eg,p1,lg,_,_,rfl,rfl,ae,PX _ _ hg,sz (by rw [Wq];omega),fun p2 C0=>?_⟩
  have LP:=aj.trans PX (ai C0 (.lst ((ut++uk)++ug)))
  have sB:=aj.trans sA LP
  refine⟨lk,p2,kvs,_,ks,r.take++r.keep++r.put,rfl,sB _ _ I.hk,L2.Paired.cP I.pk fun _ _ z=>z.keep (H0:=H0) (Kp.same sB),nd,I.fk,ae,?_,g.fits,fun H2 s2=>?_⟩
  ·exact g5 (g5 (L2.Paired.cP pt fun _ _ z=>z.keep (H0:=H0) (Kp.same LP)) (L2.Paired.cP pk fun _ _ z=>z.keep (H0:=H0) (Kp.same LP))) (L2.Paired.cP pg fun _ _ z=>z.keep (H0:=H0) (Kp.same LP))
  have sC:=aj.trans LP s2
  have R4:=hR.keep (Kp.same sC)
  have mw:=sC _ _ (sm _ _ hL)
  refine⟨_,rfl,_,rfl,a,c.rule,dx,fs,_,rfl,sC _ _ ha,T.cl,T.n2,ev,D,lt,_,_,r.take,rfl,mw,sC _ _ ht,L2.Paired.cP pt fun _ _ z=>z.keep (H0:=H0) (Kp.same sC),g.takes,?_⟩
  refine⟨_,rfl,_,rfl,H0,D,_,_,r,rfl,mw,R4,g.calls,?_⟩
  exact⟨_,rfl,H0,_,r,rfl,R4,g.few,g.names,g.OD,fun H3 s3=>⟨aj.trans sm (aj.trans sC s3),_,rfl⟩⟩
 ·rintro σ H' ⟨sm,o,rfl⟩
  have sA:=aj.trans s1 sm
  refine⟨_,rfl,_,rfl,fun x dx hx LQ MY=>?_⟩
  refine⟨x,dx,_,_,rfl,ae,fun H2 fs h1 h2 h3 kp=>⟨rfl,q x dx fs H2 (fun b o e=>kp b o ?_ (au (sA _ _ e) hx)) (sA.free hx) h1 h2 h3⟩⟩
  rw [aw (au (sA _ _ e) hx),aw (au (sA _ _ e) LQ)]
  exact sA _ _ e
end
end iR
namespace iR
open PySem L2 bB Bk
set_option maxHeartbeats 4000000
section
variable {P:WM} {w:Xj} {K:Wo} {mg:Str→Option Wr} {base:Heap} {f:WA} {fd:Xk} {c:Cl} {C:WA}
theorem Fz {α:Type}:∀{l:List α},l.length=3→∃a b c,l=[a,b,c]
 | [a,b,c],_=>⟨a,b,c,rfl⟩
theorem AH {a:Nat} (h:a≠3):decide (V.int (a:Int)=V.int 3)=false:=decide_eq_false fun z=>h (by have z':(a:Int)=3:=(by injection z);omega)
theorem qp:aC ["line"] ["line"] (av fX):=⟨rfl,rfl,rfl,by decide +kernel,rfl,by decide +kernel,by decide +kernel⟩
theorem qq {u1:Wr} (F:du K "line_pieces" "line_pieces" fX f fd) (qr:g6 P w K mg base "pieces" 3 ["text","marks"] (sZ C)) (uO:mg "LINE_MARKS"=some u1) (uP:RelV (.str cj) u1):aU P w K mg base (oz P w) 4 f fd ["line"] (Ar C):=by
 refine F.yF qp (fun vs H Q E h=>?_) (fun cE A outer s H vs Q E hr h=>?_)
 ·obtain⟨p,rfl,_⟩:=h
  rfl
 obtain⟨p,rfl,hx,hc,cy,q⟩:=h
 refine⟨_,(ao (aF (cn qr (hr.mono (by decide)) rfl (aa (pv 0) (aa (bO rfl uO uP) ag))))),?_⟩
 refine⟨_,rfl,_,_,rfl,by rw [aV];exact hx,by rw [ba];exact hc,by decide +kernel,by rw [ba];exact cy,fun hok l H' sm hl hL=>?_⟩
 rw [ba] at hL hok
 exact q hok _ _ sm ⟨l,rfl,hl,hL⟩
theorem uQ:aC ["found"] ["found"] (av jh):=⟨rfl,rfl,rfl,by decide +kernel,rfl,by decide +kernel,by decide +kernel⟩
theorem uR {LR LU:WA} (F:du K "read_kind" "read_kind" jh f fd) (bb:gD P w K mg base "is_small_word" 3 ["text"] (wO ku)) (bo:mg "len"=none) (LV:mg "int"=none) (aT:mg "NoLine"=some (.ref C)) (aM:Xo K C A9 mF=true)
  (uS:mg "KIND_WORDS"=some (.ref LR)) (uT:∀H,da K H LR [tx aW,tx aP]) (DX:mg "COUNTS"=some (.ref LU)) (DY:∀H,da K H LU [tx [48],tx [49],tx [50],tx [51],tx [52]]) :
  aU P w K mg base (oz P w) 4 f fd ["found"] (As K C):=by
 have uU:RelV (.ref LR) (.ref LR):=rfl
 have DZ:RelV (.ref LU) (.ref LU):=rfl
 refine F.yF uQ (fun vs H Q E h=>?_) (fun cE A outer s H vs Q E hr h=>?_)
 ·obtain⟨l,ps,rfl,_⟩:=h
  rfl
 obtain⟨l,ps,rfl,hL,hT,cy,q⟩:=h
 obtain⟨w1,w2,w3⟩:=hT.shown
 have BG:H l=some (.lst ((ps.map S).map V.str)):=by rw [← fU];exact hL
 refine⟨_,(af (aX (PW.pt (wg (aB gv (aJ aD rfl bo W0 (aa (pv 0) ag)) ak (aK _)) (yj (aB dn (aA az (pv 0) ak (fun _ _=>rfl)) (bO rfl uS uU) (by with_unfolding_all rfl)))))
 (ao (bH aM aT rfl (aa (cY hr.gd hr.units (pv 0)) ag)))
 aE)
 (af (aX (ki (dj (ax bb (hr.mono (by decide)) rfl (aa (aA az (pv 0) ak (fun _ _=>rfl)) ag))))
 (ao (bH aM aT rfl (aa (cY hr.gd hr.units (pv 0)) ag)))
 aE)
 (af (aX (aB dn (aA az (pv 0) ak (fun _ _=>rfl)) (bO rfl DX DZ) (by with_unfolding_all rfl))
 (ao (bH aM aT rfl (aa (cY hr.gd hr.units (pv 0)) ag)))
 aE)
 (ao (aF (dI (aa (aA az (pv 0) ak (fun _ _=>rfl)) (aa (gw rh rfl LV PyProof.Rows.Boot.«int» (aa (aA az (pv 0) ak (fun _ _=>rfl)) ag)) (aa (cN dm (aA az (pv 0) ak (fun _ _=>rfl)) aq (aK _)) ag))))))))),?_⟩
 refine⟨_,rfl,l,_,rfl,.inl (aI.of hL),rfl,_,rfl,?_⟩
 rw [Lm9]
 by_cases h3:ps.length=3
 case neg =>
  have e:cH ps=none:=by unfold cH;rw [if_neg fun z=>h3 z.1.1]
  rw [AH h3]
  exact bF ⟨_,rfl,l,ps.map S,rfl,aI.of BG,w1,w2,w3,fun _=>⟨(by show 1≤Wt;decide),cy e _ (aj.refl _)⟩⟩
 obtain⟨a,n,b,rfl⟩:=Fz h3
 have hL':H l=some (.lst [tx a,tx n,tx b]):=hL
 refine a7 ?_
 refine⟨_,rfl,l,_,0,_,rfl,rfl,aI.of hL',rfl,LR,_,rfl,.inr (uT _),rfl,rfl,_,rfl,?_⟩
 have e1:EL (tx a) [tx aW,tx aP]=decide (a∈[aW,aP]):=fM a [aW,aP]
 rw [e1]
 by_cases ha:a∈[aW,aP]
 case neg =>
  have e:cH [a,n,b]=none:=by unfold cH;rw [if_neg fun z=>ha (by simpa using z.1.2)]
  rw [decide_eq_false ha]
  exact bF ⟨_,rfl,l,[a,n,b].map S,rfl,aI.of BG,w1,w2,w3,fun _=>⟨(by show 1≤Wt;decide),cy e _ (aj.refl _)⟩⟩
 rw [decide_eq_true ha]
 refine a7 ?_
 refine⟨_,rfl,l,_,1,_,rfl,rfl,aI.of hL',rfl,S n,rfl,by have:=(hT.at 1).1;rw [aV];exact this,fun H1 s1=>⟨_,rfl,?_⟩⟩
 rw [pT]
 by_cases hn:aH n=true
 case neg =>
  have e:cH [a,n,b]=none:=by unfold cH;rw [if_neg fun z=>hn z.2.1]
  rw [show aH n=false by simpa using hn]
  exact bF ⟨_,rfl,l,[a,n,b].map S,rfl,aI.of (s1 _ _ BG),w1,w2,w3,fun _=>⟨(by show 1≤Wt;decide),cy e _ s1⟩⟩
 rw [hn]
 refine a7 ?_
 have mJ:=s1 _ _ hL'
 refine⟨_,rfl,l,_,2,_,rfl,rfl,aI.of mJ,rfl,LU,_,rfl,.inr (DY _),rfl,rfl,_,rfl,?_⟩
 have e2:EL (tx b) [tx [48],tx [49],tx [50],tx [51],tx [52]]=decide (b∈[[48],[49],[50],[51],[52]]):=fM b [[48],[49],[50],[51],[52]]
 rw [e2]
 by_cases hb:b∈([[48],[49],[50],[51],[52]]:List Cs)
 case neg =>
  have e:cH [a,n,b]=none:=by unfold cH;rw [if_neg fun z=>hb z.2.2]
  rw [decide_eq_false hb]
  exact bF ⟨_,rfl,l,[a,n,b].map S,rfl,aI.of (s1 _ _ BG),w1,w2,w3,fun _=>⟨(by show 1≤Wt;decide),cy e _ s1⟩⟩
 rw [decide_eq_true hb]
 refine a7 ?_
 have e3:PySem.intText? (S b)=some ((b.headD 0 - 48:Nat):Int)∧b.length=1:=by
  simp only [WS,List.not_mem_nil,or_false] at hb
  rcases hb with e|e|e|e|e <;> subst e <;> decide +kernel
 have e:cH [a,n,b]=some ⟨n,b.headD 0 - 48,decide (a=aP)⟩:=by unfold cH;exact if_pos ⟨⟨rfl,by simpa using ha⟩,hn,hb⟩
 refine⟨_,rfl,l,_,1,_,rfl,rfl,aI.of mJ,rfl,_,rfl,l,_,2,_,rfl,rfl,aI.of mJ,rfl,_,_,rfl,e3.1,(by rw [aV,e3.2];decide),?_⟩
 refine⟨_,rfl,l,_,0,_,rfl,rfl,aI.of mJ,rfl,rfl,(by show 3≤Wt;decide),fun t ht=>?_⟩
 have e4:decide (tx a=V.str (Wn "lasting"))=decide (a=aP):=by
  rw [show V.str (Wn "lasting")=tx aP by decide +kernel]
  by_cases z:a=aP
  ·rw [z,decide_eq_true rfl,decide_eq_true rfl]
  ·rw [decide_eq_false z];exact lK z
 rw [e4]
 exact q _ e _ _ (aj.trans s1 (ai ht _)) ⟨t,rfl,da.of ae⟩
theorem la:aC ["found"] ["found"] (av dA):=⟨rfl,rfl,rfl,by decide +kernel,rfl,by decide +kernel,by decide +kernel⟩
theorem lb (F:du K "check_two_names" "check_two_names" dA f fd) (cJ:gD P w K mg base "is_name" 2 ["text"] (wO eU)) (bo:mg "len"=none) (aT:mg "NoLine"=some (.ref C)) (aM:Xo K C A9 mF=true):aU P w K mg base (oz P w) 3 f fd ["found"] (yS C):=by
 refine F.yF la (fun vs H Q E h=>?_) (fun cE A outer s H vs Q E hr h=>?_)
 ·obtain⟨l,ps,rfl,_⟩:=h
  rfl
 obtain⟨l,ps,rfl,hL,hT,cy,q⟩:=h
 obtain⟨w1,w2,w3⟩:=hT.shown
 have BG:H l=some (.lst ((ps.map S).map V.str)):=by rw [← fU];exact hL
 refine⟨_,(ao (aX (PW.pt (wg (aB gv (aJ aD rfl bo W0 (aa (pv 0) ag)) ak (aK _)) (wg (ki (dj (ax cJ (hr.mono (by decide)) rfl (aa (aA az (pv 0) ak (fun _ _=>rfl)) ag)))) (yj (ki (dj (ax cJ (hr.mono (by decide)) rfl (aa (aA az (pv 0) ak (fun _ _=>rfl)) ag))))))))
 (ao (bH aM aT rfl (aa (cY hr.gd hr.units (pv 0)) ag)))
 aE)),?_⟩
 unfold xu at cy q
 refine⟨_,rfl,l,_,rfl,.inl (aI.of hL),rfl,_,rfl,?_⟩
 rw [Lm9]
 by_cases h3:ps.length=3
 case neg =>
  rw [AH h3]
  exact bF ⟨_,rfl,l,ps.map S,rfl,aI.of BG,w1,w2,w3,fun _=>⟨(by show 1≤Wt;decide),cy (by rw [decide_eq_false h3];rfl) _ (aj.refl _)⟩⟩
 obtain⟨a,n,b,rfl⟩:=Fz h3
 have hL':H l=some (.lst [tx a,tx n,tx b]):=hL
 have cy:(aR a && aR b)=false→Ref C H E:=cy
 have q:(aR a && aR b)=true→∀H',aj H H'→Q .bG H':=q
 refine a7 ⟨_,rfl,l,_,0,_,rfl,rfl,aI.of hL',rfl,S a,rfl,by have:=(hT.at 0).1;rw [aV];exact this,fun H1 s1=>⟨_,rfl,?_⟩⟩
 rw [oX]
 cases ha:aR a with
 | false =>
  exact bF ⟨_,rfl,l,[a,n,b].map S,rfl,aI.of (s1 _ _ BG),w1,w2,w3,fun _=>⟨(by show 1≤Wt;decide),cy (by rw [ha];rfl) _ s1⟩⟩
 | true =>
  refine a7 ⟨_,rfl,l,_,2,_,rfl,rfl,aI.of (s1 _ _ hL'),rfl,S b,rfl,by have:=(hT.at 2).1;rw [aV];exact this,fun H2 s2=>⟨_,rfl,?_⟩⟩
  rw [oX]
  have BH:=aj.trans s1 s2
  cases hb:aR b with
  | false=>exact bF ⟨_,rfl,l,[a,n,b].map S,rfl,aI.of (BH _ _ BG),w1,w2,w3,fun _=>⟨(by show 1≤Wt;decide),cy (by rw [ha,hb];rfl) _ BH⟩⟩
  | true=>exact a7 (q (by rw [ha,hb];rfl) _ BH)
end
end iR
namespace iR
open PySem L2 bB Bk
set_option maxHeartbeats 4000000
section
variable {P:WM} {w:Xj} {K:Wo} {mg:Str→Option Wr} {base:Heap} {f:WA} {fd:Xk} {c:Cl} {C:WA}
theorem uV:aC ["self","left","right"] ["self","left","right"] (av jg):=⟨rfl,rfl,rfl,by decide +kernel,rfl,by decide +kernel,by decide +kernel⟩
theorem uW (F:du K "__init__" "Look.__init__" jg f fd):aU P w K mg base fK 1 f fd ["self","left","right"] (gZ K):=by
 refine F.ok uV (fun vs H Q E h=>?_) (fun cE A outer s H vs Q E hr h=>?_)
 ·obtain⟨C,p,dx,l,r,rfl,_⟩:=h
  rfl
 obtain⟨C,p,dx,l,r,rfl,T,hp,q⟩:=h
 refine⟨_,(af (ps_fld (pv 0) (pv 1) rfl)
 (ao (ps_fld (pv 0) (pv 2) rfl))),?_⟩
 refine⟨_,rfl,_,rfl,p,C,dx,[],rfl,hp,T.cl,T.nL,(by show 0<1000;decide),_,rfl,_,rfl,p,C,dx,_,rfl,ae,T.cl,T.nR,(by show 1<1000;decide),?_⟩
 refine q _ _ ae ?_ ?_ ?_ ?_ fun b o e hb=>?_
 ·rw [aO,if_neg (by decide +kernel),aO,if_pos rfl]
 ·rw [aO,if_pos rfl]
 ·rw [aO,if_neg (by decide +kernel),aO,if_neg (by decide +kernel)]
  rfl
 ·rw [aO,if_neg (by decide +kernel),aO,if_neg (by decide +kernel)]
  rfl
 ·rw [aw hb,aw hb]
  exact e
theorem tF {H:Hp} {C:WA} {a b:V} {Q:VK} (T:wX K C) (q:∀x dx fs H',aj H H'→H x=none→H' x=some (.ins C dx fs)→fs.lookup ("left":Str)=some a→fs.lookup ("right":Str)=some b→fs.lookup ("holds":Str)=none→fs.lookup ("word":Str)=none→Q (.ref x) H') :
  ∀x dx,H x=none→H dx=none→dx≠x→gZ K (.ref x::([a,b]++[])) (upd (upd H dx (.own x)) x (.ins C dx [])) (fun v H2=>v=.bG∧Q (.ref x) H2) E0:=fun x dx hx LQ MY=>by
 refine⟨C,x,dx,a,b,rfl,T,ae,fun H' fs h1 h2 h3 h4 h5 kp=>⟨rfl,q x dx fs H' (fun b o e=>kp b o ?_ (au e hx)) hx h1 h2 h3 h4 h5⟩⟩
 rw [aw (au e hx),aw (au e LQ)]
 exact e
theorem AI:(Wn ",")=S [44]:=by decide +kernel
theorem I9:(Wn ";")=S [59]:=by decide +kernel
theorem lh {a b:Cs}:decide (tx a=tx b)=decide (a=b):=by
 by_cases z:a=b
 ·rw [z,decide_eq_true rfl,decide_eq_true rfl]
 ·rw [decide_eq_false z];exact lK z
theorem uX:aC ["found"] ["found"] (av jk):=⟨rfl,rfl,rfl,by decide +kernel,rfl,by decide +kernel,by decide +kernel⟩
theorem uY (F:du K "read_look" "read_look" jk f fd) (bC:g6 P w K mg base "check_two_names" 3 ["found"] (yS C)) (Ts:wX K c.same) (Tu:wX K c.unlike) (aT:mg "NoLine"=some (.ref C)) (aM:Xo K C A9 mF=true)
  (y8:E1 P w K mg base "Same" c.same 1 ["self","left","right"] (gZ K)) (qt:E1 P w K mg base "Unlike" c.unlike 1 ["self","left","right"] (gZ K)):aU P w K mg base (oz P w) 4 f fd ["found"] (Au c C):=by
 refine F.yF uX (fun vs H Q E h=>?_) (fun cE A outer s H vs Q E hr h=>?_)
 ·obtain⟨l,ps,rfl,_⟩:=h
  rfl
 obtain⟨l,ps,rfl,hL,hT,cy,q⟩:=h
 refine⟨_,(af (bu (cn bC (hr.mono (by decide)) rfl (aa (pv 0) ag)))
 (af (aX (aB dm (aA az (pv 0) ak (fun _ _=>rfl)) aq (aK _))
 (ao (aF (lG y8 (hr.mono (by decide)) rfl (aa (aA az (pv 0) ak (fun _ _=>rfl)) (aa (aA az (pv 0) ak (fun _ _=>rfl)) ag)))))
 aE)
 (af (aX (aB dm (aA az (pv 0) ak (fun _ _=>rfl)) aq (aK _))
 (ao (aF (lG qt (hr.mono (by decide)) rfl (aa (aA az (pv 0) ak (fun _ _=>rfl)) (aa (aA az (pv 0) ak (fun _ _=>rfl)) ag)))))
 aE)
 (ao (bH aM aT rfl (aa (cY hr.gd hr.units (pv 0)) ag)))))),?_⟩
 refine⟨_,rfl,l,ps,rfl,hL,hT,fun h2=>cy (by unfold je;rw [h2];rfl),fun h2 H1 s1=>?_⟩
 have h3:ps.length=3:=by
  unfold xu at h2
  simp only [WG,decide_eq_true_eq] at h2
  exact h2.1
 obtain⟨a,n,b,rfl⟩:=Fz h3
 unfold je at cy q
 rw [if_pos h2] at cy q
 have mJ:H1 l=some (.lst [tx a,tx n,tx b]):=s1 _ _ hL
 have cy:(if n=bI then some (⟨true,a,b⟩:Lk) else if n=d7 then some ⟨false,a,b⟩ else none)=none→Ref C H E:=cy
 have q:∀k,(if n=bI then some (⟨true,a,b⟩:Lk) else if n=d7 then some ⟨false,a,b⟩ else none)=some k→∀v H',aj H H'→jR c H H' k v→Q v H':=q
 refine⟨_,rfl,l,_,1,_,rfl,rfl,aI.of mJ,rfl,rfl,_,rfl,?_⟩
 have e1:decide (tx n=V.str (Wn "same"))=decide (n=bI):=by rw [show V.str (Wn "same")=tx bI by decide +kernel];exact lh
 rw [e1]
 by_cases hs:n=bI
 ·rw [decide_eq_true hs]
  rw [if_pos hs] at q
  refine bF ⟨_,rfl,l,_,0,_,rfl,rfl,aI.of mJ,rfl,_,rfl,l,_,2,_,rfl,rfl,aI.of mJ,rfl,tF Ts fun x dx fs H' s' hx h1 h2 h3 h4 h5=>?_⟩
  exact q _ rfl _ _ (aj.trans s1 s') ⟨x,dx,fs,rfl,s1.free hx,h1,h2,h3,h4,h5⟩
 rw [if_neg hs] at q cy
 rw [decide_eq_false hs]
 refine a7 ⟨_,rfl,l,_,1,_,rfl,rfl,aI.of mJ,rfl,rfl,_,rfl,?_⟩
 have e2:decide (tx n=V.str (Wn "unlike"))=decide (n=d7):=by rw [show V.str (Wn "unlike")=tx d7 by decide +kernel];exact lh
 rw [e2]
 by_cases hv:n=d7
 ·rw [decide_eq_true hv]
  rw [if_pos hv] at q
  refine bF ⟨_,rfl,l,_,0,_,rfl,rfl,aI.of mJ,rfl,_,rfl,l,_,2,_,rfl,rfl,aI.of mJ,rfl,tF Tu fun x dx fs H' s' hx h1 h2 h3 h4 h5=>?_⟩
  exact q _ rfl _ _ (aj.trans s1 s') ⟨x,dx,fs,rfl,s1.free hx,h1,h2,h3,h4,h5⟩
 rw [if_neg hv] at cy
 rw [decide_eq_false hv]
 obtain⟨w1,w2,w3⟩:=hT.shown
 exact a7 ⟨_,rfl,l,[a,n,b].map S,rfl,aI.of mJ,w1,w2,w3,fun _=>⟨(by show 1≤Wt;decide),cy rfl _ s1⟩⟩
theorem uZ:aC ["found"] ["found"] (av jl):=⟨rfl,rfl,rfl,by decide +kernel,rfl,by decide +kernel,by decide +kernel⟩
theorem u6 (F:du K "read_pair" "read_pair" jl f fd) (bC:g6 P w K mg base "check_two_names" 3 ["found"] (yS C)) (aT:mg "NoLine"=some (.ref C)) (aM:Xo K C A9 mF=true):aU P w K mg base (oz P w) 4 f fd ["found"] (Av K C):=by
 refine F.yF uZ (fun vs H Q E h=>?_) (fun cE A outer s H vs Q E hr h=>?_)
 ·obtain⟨l,ps,rfl,_⟩:=h
  rfl
 obtain⟨l,ps,rfl,hL,hT,cy,q⟩:=h
 refine⟨_,(af (bu (cn bC (hr.mono (by decide)) rfl (aa (pv 0) ag)))
 (af (aX (aB gv (aA az (pv 0) ak (fun _ _=>rfl)) aq (aK _))
 (ao (bH aM aT rfl (aa (cY hr.gd hr.units (pv 0)) ag)))
 aE)
 (ao (aF (dI (aa (aA az (pv 0) ak (fun _ _=>rfl)) (aa (aA az (pv 0) ak (fun _ _=>rfl)) ag))))))),?_⟩
 refine⟨_,rfl,l,ps,rfl,hL,hT,fun h2=>cy (by unfold nU;rw [h2];rfl),fun h2 H1 s1=>?_⟩
 have h3:ps.length=3:=by
  unfold xu at h2
  simp only [WG,decide_eq_true_eq] at h2
  exact h2.1
 obtain⟨a,n,b,rfl⟩:=Fz h3
 unfold nU at cy q
 rw [if_pos h2] at cy q
 have mJ:H1 l=some (.lst [tx a,tx n,tx b]):=s1 _ _ hL
 have cy:(if n=[61] then some (a,b) else none)=none→Ref C H E:=cy
 have q:∀k,(if n=[61] then some (a,b) else none)=some k→∀v H',aj H H'→Pair K H' k v→Q v H':=q
 refine⟨_,rfl,l,_,1,_,rfl,rfl,aI.of mJ,rfl,rfl,_,rfl,?_⟩
 have e1:decide (tx n=V.str (Wn "="))=decide (n=[61]):=by rw [show V.str (Wn "=")=tx [61] by decide +kernel];exact lh
 rw [e1]
 by_cases hs:n=[61]
 ·rw [decide_eq_true hs]
  rw [if_pos hs] at q
  refine a7 ⟨_,rfl,l,_,0,_,rfl,rfl,aI.of mJ,rfl,_,rfl,l,_,2,_,rfl,rfl,aI.of mJ,rfl,(by show 2≤Wt;decide),fun t ht=>?_⟩
  exact q _ rfl _ _ (aj.trans s1 (ai ht _)) ⟨t,rfl,da.of ae⟩
 rw [if_neg hs] at cy
 rw [decide_eq_false hs]
 obtain⟨w1,w2,w3⟩:=hT.shown
 exact bF ⟨_,rfl,l,[a,n,b].map S,rfl,aI.of mJ,w1,w2,w3,fun _=>⟨(by show 1≤Wt;decide),cy rfl _ s1⟩⟩
theorem rJ:aC ["found"] ["found"] (av g9):=⟨rfl,rfl,rfl,by decide +kernel,rfl,by decide +kernel,by decide +kernel⟩
theorem rK (F:du K "read_looks" "read_looks" g9 f fd) (dB:gD P w K mg base "parted" 1 ["found","mark"] lN) (jv:g6 P w K mg base "read_look" 4 ["found"] (Au c C)):aU P w K mg base (oz P w) 5 f fd ["found"] (xw c C):=by
 refine F.yF rJ (fun vs H Q E h=>?_) (fun cE A outer s H vs Q E hr h=>?_)
 ·obtain⟨l,ps,rfl,_⟩:=h
  rfl
 obtain⟨l,ps,rfl,hL,hT,cy,q⟩:=h
 have hz:=hT.n
 refine⟨_,(ao (aF (xt [] (by kernel_rfl) (bj (ax dB (hr.mono (by decide)) rfl (aa (pv 0) (aa aq ag)))) (fun _ _ _ _ _=>cT) (fun _ _ _ _ _=>(p8 jv (hr.mono (by decide)) rfl (aa (pv 0) ag)))))),?_⟩
 refine⟨_,rfl,l,_,[44],by rw [AI];rfl,hL,hz,fun v H1 s1 R=>?_⟩
 obtain⟨lr,vs,rfl,yG,hR,pr⟩:=R
 have hlen:=WW pr
 have hpl:=fL [44] ps [[]]
 have EO:=hT.parted [44]
 refine⟨lr,rfl,⟨_,aI.of hR⟩,fun D hD=>?_⟩
 refine tq (K:=K) (xs:=vs) je (aN [44] ps [[]]) (fun H0 H b y=>jR c H0 H b y) (fun _ _ _ _ _ k h=>h.keep k) (fun _ _ _ _ _ d h=>h.bw d) (lu (by simp only [WC,Xv] at hpl;omega)) hD (aI.of hR) hlen (fun i x k H' R hx hk sm hn hQ=>?_) (fun ks H' ys ek sm hL' po=>?_)
 ·have hi:i<vs.length:=(Wv.mp hx).1
  have LW:i<(aN [44] ps [[]]).length:=(Wv.mp hk).1
  have ex:vs[i]=x:=(Wv.mp hx).2
  have ek:(aN [44] ps [[]])[i]=k:=(Wv.mp hk).2
  obtain⟨b,eb,hb,uJ⟩:=paired_at pr i LW hi
  rw [ek] at uJ
  rw [ex] at eb
  subst eb
  exact⟨_,rfl,b,k,rfl,sm _ _ uJ,EO k (by rw [← ek];exact WT LW),fun z=>(cy (hn z)).sm (aj.trans s1 sm),fun k' ek' v jM s2 ho=>hQ k' v jM ek' s2 ho⟩
 ·exact q ks ek _ _ (aj.trans s1 sm) ⟨D,ys,rfl,s1.free hD,hL',L2.Paired.cP po fun b y z=>z.bw fun _ h=>s1.free h⟩
theorem rL:aC ["found"] ["found"] (av hV):=⟨rfl,rfl,rfl,by decide +kernel,rfl,by decide +kernel,by decide +kernel⟩
theorem rM (F:du K "read_pairs" "read_pairs" hV f fd) (dB:gD P w K mg base "parted" 1 ["found","mark"] lN) (jw:g6 P w K mg base "read_pair" 4 ["found"] (Av K C)):aU P w K mg base (oz P w) 5 f fd ["found"] (xx K C):=by
 refine F.yF rL (fun vs H Q E h=>?_) (fun cE A outer s H vs Q E hr h=>?_)
 ·obtain⟨l,ps,rfl,_⟩:=h
  rfl
 obtain⟨l,ps,rfl,hL,hT,cy,q⟩:=h
 have hz:=hT.n
 refine⟨_,(ao (aF (xt [] (by kernel_rfl) (bj (ax dB (hr.mono (by decide)) rfl (aa (pv 0) (aa aq ag)))) (fun _ _ _ _ _=>cT) (fun _ _ _ _ _=>(p8 jw (hr.mono (by decide)) rfl (aa (pv 0) ag)))))),?_⟩
 refine⟨_,rfl,l,_,[44],by rw [AI];rfl,hL,hz,fun v H1 s1 R=>?_⟩
 obtain⟨lr,vs,rfl,yG,hR,pr⟩:=R
 have hlen:=WW pr
 have hpl:=fL [44] ps [[]]
 have EO:=hT.parted [44]
 refine⟨lr,rfl,⟨_,aI.of hR⟩,fun D hD=>?_⟩
 refine tq (K:=K) (xs:=vs) nU (aN [44] ps [[]]) (fun _ H b y=>Pair K H b y) (fun _ _ _ _ _ k h=>h.keep k) (fun _ _ _ _ _ d h=>h) (lu (by simp only [WC,Xv] at hpl;omega)) hD (aI.of hR) hlen (fun i x k H' R hx hk sm hn hQ=>?_) (fun ks H' ys ek sm hL' po=>?_)
 ·have hi:i<vs.length:=(Wv.mp hx).1
  have LW:i<(aN [44] ps [[]]).length:=(Wv.mp hk).1
  have ex:vs[i]=x:=(Wv.mp hx).2
  have ek:(aN [44] ps [[]])[i]=k:=(Wv.mp hk).2
  obtain⟨b,eb,hb,uJ⟩:=paired_at pr i LW hi
  rw [ek] at uJ
  rw [ex] at eb
  subst eb
  exact⟨_,rfl,b,k,rfl,sm _ _ uJ,EO k (by rw [← ek];exact WT LW),fun z=>(cy (hn z)).sm (aj.trans s1 sm),fun k' ek' v jM s2 ho=>hQ k' v jM ek' s2 ho⟩
 ·exact q ks ek _ _ (aj.trans s1 sm) ⟨D,ys,rfl,s1.free hD,hL',po⟩
theorem u7:aC ["word","found"] ["word","found"] (av jj):=⟨rfl,rfl,rfl,by decide +kernel,rfl,by decide +kernel,by decide +kernel⟩
theorem u9 (F:du K "read_part" "read_part" jj f fd) (iw:g6 P w K mg base "read_looks" 5 ["found"] (xw c C)) (ix:g6 P w K mg base "read_pairs" 5 ["found"] (xx K C)) (fF:g6 P w K mg base "row_of_facts" 5 ["found"] (Ds K C)) :
  aU P w K mg base (oz P w) 6 f fd ["word","found"] (Aw K c C):=by
 refine F.yF u7 (fun vs H Q E h=>?_) (fun cE A outer s H vs Q E hr h=>?_)
 ·obtain⟨l,n,ps,rfl,_⟩:=h
  rfl
 obtain⟨l,n,ps,rfl,h5,hL,hT,cy,q⟩:=h
 refine⟨_,(af (aX (aB dm (pv 0) aq (aK _))
 (ao (aF (cn iw (hr.mono (by decide)) rfl (aa (pv 1) ag))))
 aE)
 (af (aX (aB dm (pv 0) aq (aK _))
 (ao (aF (cn ix (hr.mono (by decide)) rfl (aa (pv 1) ag))))
 aE)
 (ao (aF (cn fF (hr.mono (by decide)) rfl (aa (pv 1) ag)))))),?_⟩
 refine⟨_,rfl,rfl,_,rfl,?_⟩
 unfold iG at cy q
 by_cases h2:n=2
 ·subst h2
  rw [if_pos rfl] at cy q
  have e:decide (tx (wordAt 2)=V.str (Wn "look"))=true:=by decide +kernel
  rw [e]
  exact bF ⟨_,rfl,l,_,rfl,hL,hT,fun z=>cy (by rw [z];rfl),fun ks ek v H' s' ho=>q (.lk ks) (by rw [ek];rfl) v H' s' ho⟩
 rw [if_neg h2] at cy q
 by_cases h4:n=4
 ·subst h4
  rw [if_pos rfl] at cy q
  have e:decide (tx (wordAt 4)=V.str (Wn "look"))=false:=by decide +kernel
  have e2:decide (tx (wordAt 4)=V.str (Wn "tell"))=true:=by decide +kernel
  rw [e]
  refine a7 ⟨_,rfl,rfl,_,rfl,?_⟩
  rw [e2]
  exact bF ⟨_,rfl,l,_,rfl,hL,hT,fun z=>cy (by rw [z];rfl),fun ks ek v H' s' ho=>q (.pr ks) (by rw [ek];rfl) v H' s' ho⟩
 rw [if_neg h4] at cy q
 have hn:n=0∨n=1∨n=3:=by omega
 have e:decide (tx (wordAt n)=V.str (Wn "look"))=false:=by rcases hn with e|e|e <;> subst e <;> decide +kernel
 have e2:decide (tx (wordAt n)=V.str (Wn "tell"))=false:=by rcases hn with e|e|e <;> subst e <;> decide +kernel
 rw [e]
 refine a7 ⟨_,rfl,rfl,_,rfl,?_⟩
 rw [e2]
 exact a7 ⟨_,rfl,l,_,rfl,hL,hT,fun z=>cy (by rw [z];rfl),fun fs ef v H' s' ho=>q (.fs fs) (by rw [ef];rfl) v H' s' ho⟩
end
end iR
namespace iR
open PySem L2 bB Bk
set_option maxHeartbeats 4000000
section
variable {P:WM} {w:Xj} {K:Wo} {mg:Str→Option Wr} {base:Heap} {f:WA} {fd:Xk} {c:Cl} {C:WA}
abbrev fG:List V:=[tx eB,tx bW,tx eC,tx iF,tx pU]
theorem D0 {n:Nat} (hn:n≤5):gU fG (some (n:Int)) none=fG.drop n:=by
 rcases(by omega:n=0∨n=1∨n=2∨n=3∨n=4∨n=5) with e|e|e|e|e|e <;> subst e <;> rfl
theorem FA {m n:Nat} (h:m≤n) (hn:n<5):EL (tx (wordAt n)) (fG.drop m)=true:=by
 rcases(by omega:n=0∨n=1∨n=2∨n=3∨n=4) with e|e|e|e|e <;> subst e <;>
 rcases(by omega:m=0∨m=1∨m=2∨m=3∨m=4) with e|e|e|e|e <;> subst e <;> first|omega|decide +kernel
theorem qv (m:Nat):(fG.drop m).all gy=true:=by
 rw [Xa]
 intro x hx
 have hx':=Yw hx
 rcases WS.mp hx' with e|hx'
 ·rw [e];rfl
 rcases WS.mp hx' with e|hx'
 ·rw [e];rfl
 rcases WS.mp hx' with e|hx'
 ·rw [e];rfl
 rcases WS.mp hx' with e|hx'
 ·rw [e];rfl
 ·rw [Wy.mp hx'];rfl
theorem y9 {n:Nat} (hn:n<5):(∃z,fG[n]?=some z∧Cf z (tx (wordAt n))=true)∧∀m z,m<n→fG[m]?=some z→Cf z (tx (wordAt n))=false:=by
 rcases(by omega:n=0∨n=1∨n=2∨n=3∨n=4) with e|e|e|e|e <;> subst e <;> refine⟨⟨_,rfl,by decide +kernel⟩,fun m z hm hz=>?_⟩
 ·omega
 all_goals
  rcases(by omega:m=0∨m=1∨m=2∨m=3) with e|e|e|e <;> subst e <;> first|omega|(cases hz;decide +kernel)
theorem D1 {m n:Nat} (h:n<m) (hm:m≤5):EL (tx (wordAt n)) (fG.drop m)=false:=by
 rcases(by omega:m=1∨m=2∨m=3∨m=4∨m=5) with e|e|e|e|e <;> subst e <;>
 rcases(by omega:n=0∨n=1∨n=2∨n=3∨n=4) with e|e|e|e|e <;> subst e <;> first|omega|decide +kernel
theorem zb {p:Cs} {n:Nat} (h:qc p=some n):p=wordAt n∧n<5:=by
 unfold qc at h
 repeat' split at h
 all_goals first|(cases h;exact⟨by assumption,by decide⟩)|cases h
theorem zc {p:Cs} (h:qc p=none) (m:Nat):EL (tx p) (fG.drop m)=false:=by
 have e:fG.drop m=([eB,bW,eC,iF,pU].drop m).map tx:=by rw [ZL];rfl
 rw [e,fM]
 refine decide_eq_false fun z=>?_
 have z:=Yw z
 unfold qc at h
 simp only [WS,List.not_mem_nil,or_false] at z
 rcases z with z|z|z|z|z <;> subst z <;> exact absurd h (by decide)
theorem qw {H0 H:Hp} {L:List Pr} {kvs:List (Key × V)} {n:Nat} {s:Str} (pa:bU K c H0 H L kvs) (h5:∀x∈L,x.n<5) (hn:n<5) (e:S (wordAt n)=s) (h:∀x∈L,x.n≠n):bt kvs (W3 s:Key)=none:=by
 refine sV fun kv UQ z=>?_
 obtain⟨x,hx,OH⟩:=ky pa UQ
 rw [OH.1,← e] at z
 exact h x hx (pW (h5 x hx) hn (sS (ZE z)))
theorem cD:aC ["found","title","parts","earliest","piece","word"] ["found"] (av ji):=⟨rfl,rfl,rfl,by decide +kernel,rfl,by decide +kernel,by decide +kernel⟩
theorem va {Ja:WA} {u1:Wr} (F:du K "read_rule" "read_rule" ji f fd) (bg:gD P w K mg base "piece_at" 1 ["found","place"] oY) (bb:gD P w K mg base "is_small_word" 3 ["text"] (wO ku)) (dB:gD P w K mg base "parted" 1 ["found","mark"] lN) (aT:mg "NoLine"=some (.ref C)) (aM:Xo K C A9 mF=true)
  (jx:g6 P w K mg base "read_part" 6 ["word","found"] (Aw K c C)) (jy:mg "RULE_WORD"=some u1) (jz:RelV (tx aY) u1) (lT:mg "PART_WORDS"=some (.ref Ja)) (lU:∀H,da K H Ja fG) (vb:∃o,K.lookup Ja=some o∧o.cls=.type "tuple"∧o.dict=none) :
  aU P w K mg base (oz P w) 7 f fd ["found"] (Ax K c C):=by
 have lV:RelV (.ref Ja) (.ref Ja):=rfl
 refine F.yF cD (fun vs H Q E h=>?_) (fun cE A outer s H vs Q E hr h=>?_)
 ·obtain⟨l,ps,rfl,_⟩:=h
  rfl
 obtain⟨l,ps,rfl,hL,hT,cy,q⟩:=h
 have hz:=hT.n
 have hu:=wA hr
 obtain⟨w1,w2,w3⟩:=hT.shown
 have BG:H l=some (.lst ((ps.map S).map V.str)):=by rw [← fU];exact hL
 refine⟨_,(af (ay (i:=1) cD.nd rfl (W6 rfl) (ax bg (hr.mono (by decide)) rfl (aa (pv 0) (aa ak ag))))
 (af (aX (PW.pt (wg (aB gv (ax bg (hr.mono (by decide)) rfl (aa (pv 0) (aa ak ag))) (bO rfl jy jz) (aK _)) (wg (ki (dj (ax bb (hr.mono (by decide)) rfl (aa (pv 1) ag)))) (yj (aB gv (ax bg (hr.mono (by decide)) rfl (aa (pv 0) (aa ak ag))) aq (aK _))))))
 (ao (bH aM aT rfl (aa (cY hr.gd hr.units (pv 0)) ag)))
 aE)
 (af (ay (i:=2) cD.nd rfl (W6 rfl) wJ)
 (af (ay (i:=3) cD.nd rfl (W6 rfl) ak)
 (af (dk iY rfl (bj (ax dB (hr.mono (by decide)) rfl (aa (cg oS (pv 0) (cb ak) dW) (aa aq ag)))) (b8 (i:=4) cD.nd rfl (W6 rfl))
 (af (ay (i:=5) cD.nd rfl (W6 rfl) (ax bg (hr.mono (by decide)) rfl (aa (pv 4) (aa ak ag))))
 (af (aX (aB dn (pv 5) (cg E3 (bO rfl lT lV) (cb (pv 3)) dW) (by with_unfolding_all rfl))
 (ao (bH aM aT rfl (aa (cY hr.gd hr.units (pv 4)) ag)))
 aE)
 (af (ay (i:=3) cD.nd rfl (W6 rfl) (ar de (dg PySem.F.plainAttrs_tuple ZA PySem.F.type_tuple_index C6 (bO rfl lT lV) (aa (pv 5) ag)) ak))
 (ao (z7 hu (pv 2) (pv 5) (cn jx (hr.mono (by decide)) rfl (aa (pv 5) (aa (cg oS (pv 4) (cb ak) dW) ag))) rfl))))))
 (af (aX (PW.pt (gR (yi (mI hu aq (pv 2))) (gQ (yi (mI hu aq (pv 2))))))
 (ao (bH aM aT rfl (aa (cY hr.gd hr.units (pv 0)) ag)))
 aE)
 (ao (aF (dI (aa (pv 1) (aa (pv 2) ag))))))))))),?_⟩
 refine⟨_,rfl,l,_,1,rfl,hL,hz,?_⟩
 refine⟨_,rfl,l,_,0,rfl,hL,hz,rfl,_,rfl,?_⟩
 rw [lh]
 unfold dG at cy q
 by_cases h0:ps.getD 0 []=aY
 case neg =>
  rw [if_neg fun z=>h0 z.1] at cy
  rw [decide_eq_false h0]
  exact bF ⟨_,rfl,l,ps.map S,rfl,aI.of BG,w1,w2,w3,fun _=>⟨(by show 1≤Wt;decide),cy rfl _ (aj.refl _)⟩⟩
 rw [decide_eq_true h0]
 refine a7 ⟨_,rfl,S (ps.getD 1 []),rfl,by rw [aV];exact(hT.at 1).1,fun H1 s1=>⟨_,rfl,?_⟩⟩
 rw [pT]
 by_cases h1:aH (ps.getD 1 [])=true
 case neg =>
  rw [if_neg fun z=>h1 z.2.1] at cy
  rw [show aH (ps.getD 1 [])=false by simpa using h1]
  exact bF ⟨_,rfl,l,ps.map S,rfl,aI.of (s1 _ _ BG),w1,w2,w3,fun _=>⟨(by show 1≤Wt;decide),cy rfl _ s1⟩⟩
 rw [h1]
 have mJ:=s1 _ _ hL
 refine a7 ⟨_,rfl,l,_,2,rfl,mJ,hz,rfl,_,rfl,?_⟩
 rw [show V.str (Wn ":")=tx [58] by decide +kernel,lh]
 by_cases h2:ps.getD 2 []=[58]
 case neg =>
  rw [if_neg fun z=>h2 z.2.2] at cy
  rw [decide_eq_false h2]
  exact bF ⟨_,rfl,l,ps.map S,rfl,aI.of (s1 _ _ BG),w1,w2,w3,fun _=>⟨(by show 1≤Wt;decide),cy rfl _ s1⟩⟩
 rw [decide_eq_true h2]
 rw [if_pos ⟨h0,h1,h2⟩] at cy q
 have LX:3≤ps.length:=by
  refine ZN fun z=>?_
  rw [Gd9,Y3 (by omega)] at h2
  cases h2
 refine a7 ?_
 intro d hd
 have LY:H d=none:=s1.free hd
 have s2:aj H (upd H1 d (.dK [])):=aj.aS s1 LY _
 refine⟨_,rfl,_,rfl,l,_,rfl,.inl (.inl (s2 _ _ hL)),fun l2 oU=>?_⟩
 have PY:gU (ps.map tx) (some (3:Int)) none=(ps.drop 3).map tx:=by rw [ZL];exact wG (k:=3) (by rw [Lm9];exact LX)
 rw [PY]
 have R5:=hT.drop 3
 have I0:H l2=none:=s2.free oU
 have s3:aj H (upd (upd H1 d (.dK [])) l2 (.lst ((ps.drop 3).map tx))):=aj.aS s2 I0 _
 have UR:d≠l2:=fun z=>by rw [← z,ae] at oU;cases oU
 refine⟨l2,_,[59],by rw [I9];rfl,ae,R5.n,fun v H2 s4 RW=>?_⟩
 have EO:=R5.parted [59]
 generalize aN [59] (ps.drop 3) [[]]=RR at RW cy q EO
 obtain⟨lr,rows,rfl,yG,hR,pr⟩:=RW
 have Nb:=WW pr
 have hd2:H2 d=some (.dK []):=s4 _ _ (by rw [aw UR];exact ae)
 have R6:aj H H2:=aj.trans s3 s4
 have Jb:cL 0 RR=none→∀H',aj H H'→E (.ref C) none H':=fun z=>cy (by rw [z])
 refine⟨lr,rfl,⟨_,aI.of hR⟩,cf (K:=K) (a:=lr) (xs:=rows) (fun i σ H'=>∃(kvs:List (Key × V)) (m:Nat) (o4 o5:Option V) (L:List Pr),σ=[some (.ref l),some (tx (ps.getD 1 [])),some (.ref d),some (.int m),o4,o5]∧m≤5∧(∀x∈L,x.n<m)∧L.length≤m∧cL 0 RR=(cL m (RR.drop i)).map (L ++ ·) ∧
   (∀b o,b≠d→H2 b=some o→H' b=some o)∧(∀b,H' b=none→H2 b=none)∧H' d=some (.dK kvs)∧bU K c (upd H1 d (.dK [])) H' L kvs)
  ⟨[],0,none,none,[],rfl,by omega,(fun _ h=>nomatch h),Xs _,by rw [Yz];simp,fun _ _ _ h=>h,fun _ h=>h,hd2,.nil⟩ (fun i σ H' _ ⟨_,_,_,_,_,_,_,_,_,_,k1,_⟩=>aI.of (k1 _ _ (wb hR hd2 (by intro z;cases z)) hR)) ?_ ?_⟩
 ·rintro i y σ H' hi ⟨kvs,m,o4,o5,L,rfl,PZ,LZ,US,eP,k1,k2,Cg,pa⟩
  have UT:i<rows.length:=(Wv.mp hi).1
  have Cj:i<RR.length:=by omega
  have ey:rows[i]=y:=(Wv.mp hi).2
  obtain⟨b,eb,hb0,P0⟩:=paired_at pr i Cj UT
  rw [ey] at eb
  subst eb
  have Nc:=EO _ (WT Cj)
  rw [XD Cj] at eP
  generalize RR[i]=x at P0 Nc eP
  have UU:b≠d:=wb P0 hd2 (by intro z;cases z)
  have hb':=k1 _ _ UU P0
  have UW:aj H H':=fun b o e=>k1 b o (au e LY) (R6 b o e)
  refine⟨_,rfl,b,_,0,rfl,hb',Nc.n,?_⟩
  refine⟨_,rfl,_,rfl,_,rfl,Ja,_,rfl,lU _,fun p H3 Jc hp=>?_⟩
  rw [D0 PZ] at hp
  refine⟨p,_,rfl,.inr hp,rfl,qv m,_,rfl,?_⟩
  have Nd:=Jc _ _ hb'
  have R7:H3 b=some (.lst ((x.map S).map V.str)):=by rw [← fU];exact Nd
  have P1:=aj.trans UW Jc
  obtain⟨v1,v2,v3⟩:=Nc.shown
  have eP:cL 0 RR=(match qc (x.getD 0 []) with|none=>none|some n=>if m≤n then (match iG n (x.drop 1) with|none=>none|some p=>(cL (n+1) (RR.drop (i+1))).map (Pr.mk n (x.drop 1) p :: ·)) else none).map (L ++ ·):=eP
  rw [if_pos rfl]
  cases hw:qc (x.getD 0 []) with
  | none =>
   rw [hw] at eP
   rw [zc hw]
   exact bF ⟨_,rfl,b,x.map S,rfl,aI.of R7,v1,v2,v3,fun _=>⟨(by show 1≤Wt;decide),Jb eP _ P1⟩⟩
  | some n =>
  rw [hw] at eP
  obtain⟨ew,Nf⟩:=zb hw
  have eP:cL 0 RR=(if m≤n then (match iG n (x.drop 1) with|none=>none|some p=>(cL (n+1) (RR.drop (i+1))).map (Pr.mk n (x.drop 1) p :: ·)) else none).map (L ++ ·):=eP
  by_cases KU:m≤n
  case neg =>
   rw [if_neg KU] at eP
   rw [ew,D1 (by omega) PZ]
   exact bF ⟨_,rfl,b,x.map S,rfl,aI.of R7,v1,v2,v3,fun _=>⟨(by show 1≤Wt;decide),Jb eP _ P1⟩⟩
  rw [if_pos KU] at eP
  rw [ew,FA KU Nf]
  refine a7 ?_
  obtain⟨UX,UY⟩:=y9 Nf
  refine⟨.inr (.inl ⟨rfl,vb⟩),_,rfl,Ja,fG,_,n,rfl,rfl,lU _,rfl,qv 0,UX,UY,_,_,rfl,rfl,?_⟩
  refine⟨_,rfl,_,rfl,_,rfl,b,_,rfl,.inl (.inl Nd),fun l3 BD=>?_⟩
  have Iv:1≤x.length:=by
   refine ZN fun z=>?_
   rw [Gd9,Y3 (by omega)] at ew
   revert ew
   rcases(by omega:n=0∨n=1∨n=2∨n=3∨n=4) with e|e|e|e|e <;> subst e <;> decide
  have ec:gU (x.map tx) (some (1:Int)) none=(x.drop 1).map tx:=by rw [ZL];exact wG (k:=1) (by rw [Lm9];exact Iv)
  rw [ec]
  have Ng:H3 d=some (.dK kvs):=Jc _ _ Cg
  have Wf:d≠l3:=au Ng BD
  refine⟨l3,n,x.drop 1,rfl,Nf,ae,Nc.drop 1,fun z=>?_,fun pt ep v H5 s5 Nh=>?_⟩
  ·rw [z] at eP
   exact fun H6 s6=>Jb eP H6 (aj.trans P1 (aj.trans (ai BD _) s6))
  rw [ep] at eP
  have eP:cL 0 RR=((cL (n+1) (RR.drop (i+1))).map (Pr.mk n (x.drop 1) pt :: ·)).map (L ++ ·):=eP
  have Ni:aj H3 H5:=aj.trans (ai BD _) s5
  have R8:H5 d=some (.dK kvs):=Ni _ _ Ng
  have R9:kvs.length≤5:=by
   have z:=WW pa
   omega
  have ui:bt kvs (W3 (S (wordAt n)):Key)=none:=qw pa (fun z hz=>by have:=LZ z hz;omega) Nf rfl fun z hz=>by have:=LZ z hz;omega
  have kp:Kp (upd H1 d (.dK [])) H5 (upd H5 d (.dK (kvs++[(W3 (S (wordAt n)),v)]))):=Kp.upd ae R8 (by intro xs z;cases z) (by intro o u z;cases z)
  have UZ:∀b,H5 b=none→H2 b=none:=fun b h=>k2 b (aj.free (aj.trans Jc Ni) h)
  refine⟨_,rfl,_,rfl,d,_,rfl,Bb.k (k:=(W3 (S (wordAt n)):Key)) R8 (lu (by omega)),?_⟩
  rw [wH _ ui]
  refine⟨kvs++[(W3 (S (wordAt n)),v)],n+1,_,_,L++[⟨n,x.drop 1,pt⟩],rfl,by omega,fun z hz=>?_,by rw [Wq,WL];omega,?_,fun b' o hb hH=>?_,fun b' h=>UZ b' (kp.oW b' h),ae,?_⟩
  ·rcases WU.mp hz with hz|hz
   ·have:=LZ z hz;omega
   ·rw [Wy.mp hz];exact ZM _
  ·rw [eP,Option.map_map]
   congr 1
   funext z
   simp
  ·rw [aw hb]
   exact Ni _ _ (Jc _ _ (k1 _ _ hb hH))
  ·refine((bU.keep (Kp.same (aj.trans Jc Ni)) pa).keep kp).snoc ⟨rfl,?_⟩
   refine cC.keep kp (cC.bw (fun b h=>?_) Nh)
   have h3:H3 b=none:=(ai BD _).free h
   exact(aj.trans (ai oU _) s4).free (k2 b (Jc.free h3))
 ·rintro σ H' ⟨kvs,m,o4,o5,L,rfl,PZ,LZ,US,eP,k1,k2,Cg,pa⟩
  rw [List.drop_of_length_le (by omega)] at eP
  have eP:cL 0 RR=some (L++[]):=eP
  rw [Xh] at eP
  rw [eP] at cy q
  have cy:(if L.any (fun x=>decide (x.n<2))=true then some (ps.getD 1 [],L) else none)=none→Ref C H E:=cy
  have q:∀title L',(if L.any (fun x=>decide (x.n<2))=true then some (ps.getD 1 [],L) else none)=some (title,L')→∀(t d:WA) (kvs:List (Key × V)) (H':Hp),aj H H'→H' t=some (.tup [tx title,.ref d])→H d=none→H' d=some (.dK kvs)→bU K c H H' L' kvs→Q (.ref t) H':=q
  have sH:aj H H':=fun b o e=>k1 b o (au e LY) (R6 b o e)
  have h5:∀x∈L,x.n<5:=fun x hx=>by have:=LZ x hx;omega
  have fin:L.any (fun x=>decide (x.n<2))=true→∀t,H' t=none→Q (.ref t) (upd H' t (.tup [tx (ps.getD 1 []),.ref d])):=fun ha t ht=>by
   rw [if_pos ha] at q
   have U0:d≠t:=au Cg ht
   refine q _ _ rfl t d kvs _ (aj.trans sH (ai ht _)) ae LY (by rw [aw U0];exact Cg) ?_
   exact L2.Paired.cP pa fun x kv z=>⟨z.1,cC.bw (fun b h=>aj.free (aj.aS s1 LY _) h) (z.2.keep (Kp.same (ai ht _)))⟩
  have e0:(S (wordAt 0))=Wn "take":=by decide +kernel
  have e1:(S (wordAt 1))=Wn "keep":=by decide +kernel
  refine⟨_,rfl,d,_,rfl,iP.k (k:=(W3 (Wn "take"):Key)) Cg,_,rfl,?_⟩
  by_cases L3:∃x∈L,x.n=0
  ·obtain⟨x,L4,hx⟩:=L3
   have D4:=mP pa L4
   rw [hx,e0] at D4
   rw [D4]
   exact a7 ⟨_,rfl,_,rfl,(by show 2≤Wt;decide),fin (YA.mpr ⟨x,L4,by rw [hx];rfl⟩)⟩
  rw [qw pa h5 (by decide) e0 fun x hx z=>L3 ⟨x,hx,z⟩]
  refine bF ⟨_,rfl,d,_,rfl,iP.k (k:=(W3 (Wn "keep"):Key)) Cg,_,rfl,?_⟩
  by_cases Iv:∃x∈L,x.n=1
  ·obtain⟨x,L4,hx⟩:=Iv
   have D4:=mP pa L4
   rw [hx,e1] at D4
   rw [D4]
   exact a7 ⟨_,rfl,_,rfl,(by show 2≤Wt;decide),fin (YA.mpr ⟨x,L4,by rw [hx];rfl⟩)⟩
  rw [qw pa h5 (by decide) e1 fun x hx z=>Iv ⟨x,hx,z⟩]
  have ha:L.any (fun x=>decide (x.n<2))=false:=List.any_eq_false.mpr fun x hx z=>by
   have z':x.n<2:=of_decide_eq_true z
   rcases(by omega:x.n=0∨x.n=1) with e|e
   ·exact L3 ⟨x,hx,e⟩
   ·exact Iv ⟨x,hx,e⟩
  rw [ha] at cy
  exact bF ⟨_,rfl,l,ps.map S,rfl,aI.of (sH _ _ BG),w1,w2,w3,fun _=>⟨(by show 1≤Wt;decide),cy rfl _ sH⟩⟩
end
end iR
namespace iR
open PySem L2 bB Bk
set_option maxHeartbeats 4000000
section
variable {P:WM} {w:Xj} {K:Wo} {mg:Str→Option Wr} {base:Heap} {f:WA} {fd:Xk} {c:Cl} {C C2:WA}
theorem eY:aC ["kinds","rules","line","found","reading","kind"] ["kinds","rules","line"] (av jq):=⟨rfl,rfl,rfl,by decide +kernel,rfl,by decide +kernel,by decide +kernel⟩
theorem vc {u1:Wr} (F:du K "hear_line" "hear_line" jq f fd) (T:uo K c.rule) (gm:g6 P w K mg base "line_pieces" 4 ["line"] (Ar C)) (jA:g6 P w K mg base "read_rule" 7 ["found"] (Ax K c C)) (jB:g6 P w K mg base "read_kind" 4 ["found"] (As K C))
  (pe:mg "Twice"=some (.ref C2)) (ph:Xo K C2 A9 mF=true)
  (zd:E1 P w K mg base "Rule" c.rule 3 ["self","title","parts"] (oZ K c)) (jy:mg "RULE_WORD"=some u1) (jz:RelV (tx aY) u1):aU P w K mg base (oz P w) 8 f fd ["kinds","rules","line"] (Ay K c C C2):=by
 refine F.yF eY (fun vs H Q E h=>?_) (fun cE A outer s H vs Q E hr h=>?_)
 ·obtain⟨H0,lk,lr,ks,rs,kvs,jU,p,rfl,_⟩:=h
  rfl
 obtain⟨H0,lk,lr,ks,rs,kvs,jU,p,rfl,I,Wg,Wh,hz,hc,hne,q⟩:=h
 refine⟨_,(af (ay (i:=3) eY.nd rfl (W6 rfl) (cn gm (hr.mono (by decide)) rfl (aa (pv 2) ag)))
 (ao (aX (aB dm (aA az (pv 3) ak (fun _ _=>rfl)) (bO rfl jy jz) (aK _))
 (af (ay (i:=4) eY.nd rfl (W6 rfl) (cn jA (hr.mono (by decide)) rfl (aa (pv 3) ag)))
 (af (aX (aB mD (aA bE (pv 4) ak (fun _ _=>rfl)) (dc [] rfl (by kernel_rfl) (bj (pv 1)) (fun _ _ _ _ _=>cT) (fun _ _ _ _ _=>(z0 (K:=K) rfl (pv 0) rfl))) (by with_unfolding_all rfl))
 (ao (bH ph pe rfl (aa (gH (pv 2)) ag)))
 aE)
 (ao (bu (dg WZ W4 W9 bz (pv 1) (aa (lG zd (hr.mono (by decide)) rfl (aa (aA bE (pv 4) ak (fun _ _=>rfl)) (aa (aA bE (pv 4) ak (fun _ _=>rfl)) ag))) ag))))))
 (af (ay (i:=5) eY.nd rfl (W6 rfl) (cn jB (hr.mono (by decide)) rfl (aa (pv 3) ag)))
 (af (aX (aB mD (aA bE (pv 5) ak (fun _ _=>rfl)) (dc [] rfl (by kernel_rfl) (bj (pv 0)) (fun _ _ _ _ _=>cT) (fun _ _ _ _ _=>(aA (r:=yy K) bE (pv 0) ak (fun _ _=>rfl)))) (by with_unfolding_all rfl))
 (ao (bH ph pe rfl (aa (gH (pv 2)) ag)))
 aE)
 (ao (bu (dg WZ W4 W9 bz (pv 0) (aa (pv 5) ag))))))))),?_⟩
 unfold bc at q
 refine⟨_,rfl,p,rfl,hz,hc,fun e=>by rw [e] at q;exact q,fun hok v H1 s1 T1=>?_⟩
 obtain⟨l,rfl,uI,hl⟩:=T1
 have hT:cG (toks p):=cG.of hz hc
 have GV:(S p).length≤50000:=by rw [aV];omega
 have Sa:∀c∈(S p).cps.toList,c<16 ^ 8:=by rw [ba];exact hc
 rw [if_pos hok] at q
 have hne:=hne hok
 generalize toks p=ps at hl hT q hne
 cases ps with
 | nil=>exact absurd rfl hne
 | cons p0 pr =>
 refine⟨_,rfl,l,_,0,tx p0,rfl,rfl,aI.of hl,bT (j:=0) rfl,rfl,_,rfl,?_⟩
 rw [lh]
 have q:GJ K c C C2 H0 H lk lr ks rs kvs jU Q E (if p0=aY then (dG (p0::pr)).map (fun q=>It.rule q.1 q.2) else (cH (p0::pr)).map It.kind):=q
 by_cases h0:p0=aY
 case neg =>
  rw [if_neg h0] at q
  rw [decide_eq_false h0]
  refine a7 ⟨_,rfl,l,_,rfl,hl,hT,fun e=>?_,fun k ek v H2 s2 hK=>?_⟩
  ·rw [e] at q
   exact Ref.sm q s1
  rw [ek] at q
  obtain⟨qT,q⟩:=q
  have BH:=aj.trans s1 s2
  obtain⟨t,rfl,ht⟩:=hK
  refine⟨_,rfl,t,_,0,_,rfl,rfl,ht,rfl,_,rfl,lk,rfl,⟨_,aI.of (BH _ _ I.hk)⟩,fun D hD=>?_⟩
  have zl:=WW I.pk
  refine i9 (K:=K) (xs:=kvs) (ks.map (·.n)) (fun _ _ b y=>y=tx b) (fun _ _ _ _ _ _ h=>h) (fun _ _ _ _ _ _ h=>h) (lu (by have:=I.fk;omega)) hD (aI.of (BH _ _ I.hk)) (by rw [Lm9];exact zl) (fun i x b H' R hx hb sm hQ=>?_) (fun H3 ys sm hL po=>?_)
  ·obtain⟨hi,ex⟩:=bJ hx
   obtain⟨lL,eb⟩:=bJ hb
   rw [Lm9] at lL
   rw [Xw] at eb
   obtain⟨tk,D5,hk⟩:=paired_at I.pk i lL hi
   rw [ex] at D5
   subst D5
   refine⟨_,rfl,tk,_,0,_,rfl,rfl,hk.same (aj.trans BH sm),rfl,hQ _ _ (aj.refl _) ?_⟩
   rw [eb]
  ·rw [dM po] at hL
   refine⟨D,_,rfl,.inl (aI.of hL),rfl,jc _,_,rfl,?_⟩
   have sA:=aj.trans BH sm
   rw [fM]
   by_cases oV:k.n∈ks.map (·.n)
   ·rw [decide_eq_true oV]
    exact bF ⟨_,rfl,_,rfl,GV,Sa,fun _=>⟨(by show 1≤Wt;decide),qT oV _ sA⟩⟩
   rw [decide_eq_false oV]
   refine a7 ?_
   have P2:=sA _ _ I.hk
   refine⟨_,rfl,.inl ⟨rfl,_,aI.of P2⟩,_,rfl,lk,_,_,rfl,rfl,P2,lu (by have:=I.fk;omega),?_⟩
   obtain⟨u0,U1⟩:=I.ok
   have kp:Kp H0 H3 (upd H3 lk (.lst (kvs++[V.ref t]))):=Kp.upd U1 P2 (by intro xs z;cases z) (by intro o u z;cases z)
   have BF:Kp H0 H (upd H3 lk (.lst (kvs++[V.ref t]))):=(Kp.same sA).trans kp
   refine q oV (.ref t) _ (fun b o hb e=>by rw [aw hb];exact sA _ _ e) ⟨ae,?_,?_,L2.Paired.cP I.pr fun _ _ z=>z.keep BF,I.ne,I.ok,I.or,fun b h=>I.oW b (BF.oW b h),?_,I.fr⟩
   ·exact(L2.Paired.cP I.pk fun _ _ z=>z.keep BF).snoc (Kind.keep kp ⟨t,rfl,ht.same sm⟩)
   ·rw [aw (Xl I.ne)]
    exact sA _ _ I.hr
   ·rw [Wq,WL]
    omega
 rw [if_pos h0] at q
 rw [decide_eq_true h0]
 refine bF ⟨_,rfl,l,_,rfl,hl,hT,fun e=>?_,fun title L eL t d kd H2 s2 ht hd0 hd pa=>?_⟩
 ·rw [e] at q
  exact Ref.sm q s1
 rw [eL] at q
 obtain⟨qT,q⟩:=q
 have BH:=aj.trans s1 s2
 refine⟨_,rfl,t,_,0,_,rfl,rfl,da.of ht,rfl,_,rfl,lr,rfl,⟨_,aI.of (BH _ _ I.hr)⟩,fun D hD=>?_⟩
 have zl:=WW I.pr
 refine i9 (K:=K) (xs:=jU) (rs.map (·.title)) (fun _ _ b y=>y=tx b) (fun _ _ _ _ _ _ h=>h) (fun _ _ _ _ _ _ h=>h) (lu (by have:=I.fr;omega)) hD (aI.of (BH _ _ I.hr)) (by rw [Lm9];exact zl) (fun i x b H' R hx hb sm hQ=>?_) (fun H3 ys sm hL po=>?_)
 ·obtain⟨hi,ex⟩:=bJ hx
  obtain⟨lL,eb⟩:=bJ hb
  rw [Lm9] at lL
  rw [Xw] at eb
  obtain⟨a,dx,fs,ea,na,ha,RF⟩:=paired_at I.pr i lL hi
  rw [ex] at ea
  subst ea
  refine⟨_,rfl,a,c.rule,dx,fs,_,rfl,(aj.trans BH sm) _ _ ha,T.cl,T.n1,RF.title,hQ _ _ (aj.refl _) ?_⟩
  rw [eb]
 ·rw [dM po] at hL
  refine⟨D,_,rfl,.inl (aI.of hL),rfl,jc _,_,rfl,?_⟩
  have sA:=aj.trans BH sm
  rw [fM]
  by_cases oV:title∈rs.map (·.title)
  ·rw [decide_eq_true oV]
   exact bF ⟨_,rfl,_,rfl,GV,Sa,fun _=>⟨(by show 1≤Wt;decide),qT oV _ sA⟩⟩
  rw [decide_eq_false oV]
  obtain⟨O1,Lp,q⟩:=q oV
  refine a7 ?_
  have Sb:=sA _ _ I.hr
  have Sd:=sm _ _ ht
  have Ng:=sm _ _ hd
  refine⟨_,rfl,.inl ⟨rfl,_,aI.of Sb⟩,_,rfl,t,_,0,_,rfl,rfl,da.of Sd,rfl,_,rfl,t,_,1,_,rfl,rfl,da.of Sd,rfl,fun x dx hx LQ MY=>?_⟩
  have Se:H x=none:=sA.free hx
  have L3:H0 x=none:=I.oW x Se
  have sM:aj H3 (upd (upd H3 dx (.own x)) x (.ins c.rule dx [])):=aj.trans (ai LQ _) (aj.aS (aj.refl _) (by rw [aw (Xl MY)];exact hx) _)
  have U2:bU K c (upd H0 x (.own x)) (upd (upd H3 dx (.own x)) x (.ins c.rule dx [])) L kd:=by
   refine L2.Paired.cP pa fun y kv z=>⟨z.1,?_⟩
   have z1:=cC.bw (H0:=H0) (fun b h=>I.oW b (s1.free h)) z.2
   exact cC.keep (Kp.same sM) (cC.apart hx (cC.keep (Kp.same sm) z1))
  obtain⟨ur,Sf⟩:=I.or
  have Sh:lr≠x:=au Sb hx
  refine⟨upd H0 x (.own x),x,dx,d,title,L,kd,_,rfl,ae,ae,fun b h=>?_,sM _ _ Ng,U2,fun y hy=>(O1 y hy).1,fun y hy=>(O1 y hy).2,Lp,fun H4 fs h4 RF U3=>⟨rfl,?_⟩⟩
  ·have P4:b≠x:=fun z=>by rw [z,ae] at h;cases h
   rw [aw P4]
   exact I.oW b (aj.free (aj.trans sA sM) h)
  have s4:aj H H4:=fun b o e=>U3 b o ((aj.trans sA sM) b o e) (au e Se)
  have P5:=s4 _ _ I.hr
  refine⟨lr,_,_,rfl,rfl,P5,lu (by have:=I.fr;omega),?_⟩
  have kp:Kp H0 H4 (upd H4 lr (.lst (jU++[V.ref x]))):=Kp.upd Sf P5 (by intro xs z;cases z) (by intro o u z;cases z)
  have FC:Kp (upd H0 x (.own x)) H4 (upd H4 lr (.lst (jU++[V.ref x]))):=Kp.upd (by rw [aw Sh];exact Sf) P5 (by intro xs z;cases z) (by intro o u z;cases z)
  have BF:Kp H0 H (upd H4 lr (.lst (jU++[V.ref x]))):=(Kp.same s4).trans kp
  refine q (.ref x) _ (fun b o hb e=>by rw [aw hb];exact s4 _ _ e) ⟨?_,L2.Paired.cP I.pk fun _ _ z=>z.keep BF,ae,?_,I.ne,I.ok,I.or,fun b h=>I.oW b (BF.oW b h),I.fk,?_⟩
  ·rw [aw I.ne]
   exact s4 _ _ I.hk
  ·refine(L2.Paired.cP I.pr fun _ _ z=>z.keep BF).snoc ⟨x,dx,fs,rfl,L3,by rw [aw (Xl Sh)];exact h4,?_⟩
   refine lI.bw (fun b h=>?_) (RF.keep FC)
   have P4:b≠x:=fun z=>by rw [z,ae] at h;cases h
   rw [aw P4] at h
   exact h
  ·rw [Wq,WL]
   omega
theorem eZ:aC ["text","kinds","rules","line"] ["text"] (av jo):=⟨rfl,rfl,rfl,by decide +kernel,rfl,by decide +kernel,by decide +kernel⟩
theorem vd (F:du K "read_book" "read_book" jo f fd) (iy:gD P w K mg base "told_lines" 2 ["text"] Ad) (jC:g6 P w K mg base "hear_line" 8 ["kinds","rules","line"] (Ay K c C C2)) (iz:gD P w K mg base "whole_book" 3 ["kinds","rules"] (Af K c)) :
  aU P w K mg base (oz P w) 9 f fd ["text"] (AA K c C C2):=by
 refine F.yF eZ (fun vs H Q E h=>?_) (fun cE A outer s H vs Q E hr h=>?_)
 ·obtain⟨ls,rfl,_⟩:=h
  rfl
 obtain⟨ls,rfl,B,q⟩:=h
 refine⟨_,(af (ay (i:=1) eZ.nd rfl (W6 rfl) (aL ag))
 (af (ay (i:=2) eZ.nd rfl (W6 rfl) (aL ag))
 (af (dk iY rfl (bj (ax iy (hr.mono (by decide)) rfl (aa (pv 0) ag))) (b8 (i:=3) eZ.nd rfl (W6 rfl))
 (ao (bu (cn jC (hr.mono (by decide)) rfl (aa (pv 1) (aa (pv 2) (aa (pv 3) ag)))))))
 (ao (aF (ax iz (hr.mono (by decide)) rfl (aa (pv 1) (aa (pv 2) ag)))))))),?_⟩
 refine⟨(by show 0≤Wt;decide),fun lk L5=>⟨(by show 0≤Wt;decide),fun lr yG=>?_⟩⟩
 have Si:lk≠lr:=fun z=>by rw [← z,ae] at yG;cases yG
 have Jd:H lr=none:=(ai L5 _).free yG
 have s0:aj H (upd (upd H lk (.lst [])) lr (.lst [])):=aj.trans (ai L5 _) (ai yG _)
 have JF:upd (upd H lk (.lst [])) lr (.lst []) lk=some (.lst []):=by rw [aw Si];exact ae
 have Nj:upd (upd H lk (.lst [])) lr (.lst []) lr=some (.lst []):=ae
 generalize upd (upd H lk (.lst [])) lr (.lst [])=B0 at s0 JF Nj
 refine⟨_,rfl,ls,rfl,B.ne,B.no,B.len,fun v H1 s1 T1=>?_⟩
 obtain⟨l,rfl,uI,hl⟩:=T1
 have U4:l≠lk:=fun z=>by rw [z,JF] at uI;cases uI
 have U5:l≠lr:=fun z=>by rw [z,Nj] at uI;cases uI
 have L6:∀p∈ls.filter told,p∈ls∧told p=true:=fun p hp=>YF.mp hp
 have Fx:=YZ told ls
 have hfew:=B.few
 generalize ls.filter told=LS at hl q L6 Fx
 refine⟨l,rfl,⟨_,aI.of hl⟩,cf (K:=K) (a:=l) (xs:=LS.map tx) (fun i σ H'=>∃(kvs jU:List V) (o:Option V) (ks:List Kd) (rs:List Rl),σ=[some (tx (b6 ls)),some (.ref lk),some (.ref lr),o]∧(∀b o,b≠lk→b≠lr→H1 b=some o→H' b=some o) ∧
   pX K c B0 H' lk lr ks rs kvs jU∧bN LS [] []=bN (LS.drop i) ks rs∧(ks.map (·.n)).Nodup∧ks.length≤i∧rs.length≤i)
  ⟨[],[],none,[],[],rfl,fun _ _ _ _ h=>h,⟨s1 _ _ JF,.nil,s1 _ _ Nj,.nil,Si,⟨_,JF⟩,⟨_,Nj⟩,fun b h=>s1.free h,Xs _,Xs _⟩,rfl,.nil,Wz _,Wz _⟩ (fun i σ H' _ ⟨_,_,_,_,_,_,k1,_⟩=>aI.of (k1 _ _ U4 U5 hl)) ?_ ?_⟩
 ·rintro i y σ H' hi ⟨kvs,jU,o,ks,rs,rfl,k1,I,eR,nd,U6,U7⟩
  obtain⟨v8,ey⟩:=bJ hi
  rw [Lm9] at v8
  rw [Xw] at ey
  subst ey
  have hm:=L6 _ (WT v8)
  rw [XD v8] at eR
  generalize LS[i]=p at hm eR
  have P6:aj H H':=fun b o e=>k1 b o (au e L5) (au e Jd) (s1 _ _ (s0 _ _ e))
  have L7:p.length≤20000:=W5 (by have:=mO ls _ hm.1;omega) B.len
  refine⟨_,rfl,_,rfl,_,rfl,B0,lk,lr,ks,rs,kvs,jU,p,rfl,I,by omega,by omega,L7,B.IA p hm.1,fun hok=>B.tk p hm.1 hm.2 hok,?_⟩
  have eR:bN LS [] []=(match bc p with
   | none=>.bad
   | some (.kind k)=>if k.n∈ks.map (·.n) then .twice else bN (LS.drop (i+1)) (ks++[k]) rs
   | some (.rule t L)=>if t∈rs.map (·.title) then .twice else bN (LS.drop (i+1)) ks (rs++[jb t L])):=eR
  have Nb:=B.rl p hm.1
  cases hl:bc p with
  | none =>
   rw [hl] at eR
   rw [eR] at q
   exact Ref.sm q P6
  | some it =>
  rw [hl] at eR Nb
  cases it with
  | kind k =>
   have eR:bN LS [] []=if k.n∈ks.map (·.n) then .twice else bN (LS.drop (i+1)) (ks++[k]) rs:=eR
   refine⟨fun oV=>?_,fun oV v H2 k2 I2=>⟨kvs++[v],jU,_,ks++[k],rs,rfl,fun b o b1 b2 e=>k2 b o b1 (k1 b o b1 b2 e),I2,?_,?_,by rw [Wq,WL];omega,by omega⟩⟩
   ·rw [if_pos oV] at eR
    rw [eR] at q
    exact Ref.sm q P6
   ·rw [if_neg oV] at eR
    exact eR
   ·rw [WQ,Ye]
    refine⟨nd,by simp,fun a ha b hb e=>oV ?_⟩
    have hb':b=k.n:=by simpa using hb
    rw [← hb',← e]
    exact ha
  | rule t L =>
   have eR:bN LS [] []=if t∈rs.map (·.title) then .twice else bN (LS.drop (i+1)) ks (rs++[jb t L]):=eR
   obtain⟨h1,h2⟩:=Nb t L rfl
   refine⟨fun oV=>?_,fun oV=>⟨h1,h2,fun v H2 k2 I2=>⟨kvs,jU++[v],_,ks,rs++[jb t L],rfl,fun b o b1 b2 e=>k2 b o b2 (k1 b o b1 b2 e),I2,?_,nd,by omega,by rw [Wq,WL];omega⟩⟩⟩
   ·rw [if_pos oV] at eR
    rw [eR] at q
    exact Ref.sm q P6
   ·rw [if_neg oV] at eR
    exact eR
 ·rintro σ H' ⟨kvs,jU,o,ks,rs,rfl,k1,I,eR,nd,U6,U7⟩
  rw [Lm9,List.drop_length] at eR
  rw [eR] at q
  obtain⟨good,q⟩:=q
  refine⟨_,rfl,_,rfl,B0,lk,lr,_,_,kvs,jU,rfl,I,nd,good,fun x dx fs H2 s2 hx h1 h2 h3=>?_⟩
  have sH:aj H H2:=fun b o e=>s2 b o (k1 b o (au e L5) (au e Jd) (s1 _ _ (s0 _ _ e)))
  have L8:∀b,B0 b=none→H b=none:=fun b h=>s0.free h
  refine q _ _ sH ⟨x,dx,fs,rfl,L8 x (I.oW x hx),h1,⟨_,h2,lk,kvs,rfl,L5,s2 _ _ I.hk,L2.Paired.cP I.pk fun _ _ z=>z.keep (H0:=H) (Kp.same s2)⟩,⟨_,h3,lr,jU,rfl,Jd,s2 _ _ I.hr,L2.Paired.cP I.pr fun _ _ z=>gF.bw L8 (z.keep (Kp.same s2))⟩⟩
end
end iR
namespace iR
open PySem L2 bB Bk
set_option maxHeartbeats 4000000
section
variable {P:WM} {w:Xj} {K:Wo} {mg:Str→Option Wr} {base:Heap} {f:WA} {fd:Xk}
theorem oH:aC ["_law_script","_law_k"] ["_law_script","_law_k"] (av fC):=⟨rfl,rfl,rfl,by decide +kernel,rfl,by decide +kernel,by decide +kernel⟩
theorem oI (F:du K "_law_cell_at" "_law_cell_at" fC f fd) (bo:mg "len"=none):aU P w K mg base fK 1 f fd ["_law_script","_law_k"] (Dn K):=by
 refine F.ok oH (fun vs H Q E h=>?_) (fun cE A outer s H vs Q E hr h=>?_)
 ·obtain⟨a,ns,k,rfl,_⟩:=h
  rfl
 obtain⟨a,ns,k,rfl,hS,h0,q⟩:=h
 refine⟨_,(af (aX (aB jQ (pv 1) (aJ aD rfl bo W0 (aa (pv 0) ag)) (aK _))
 (ao (aF (aA az (pv 0) (pv 1) (fun _ _=>rfl))))
 aE)
 (ao (aF ak))),?_⟩
 refine⟨_,rfl,_,rfl,a,_,rfl,.inl hS,_,_,rfl,rfl,_,rfl,?_⟩
 refine iN (fun c=>?_) (fun c=>?_)
 ·have c':k<(((ns.map V.int).length:Nat):Int):=of_decide_eq_true c
  have hk:k.toNat<ns.length:=by rw [Lm9] at c';omega
  have e:wx (ns.map V.int) k=some (.int ns[k.toNat]):=by
   have z:=bT (xs:=ns.map V.int) (j:=k.toNat) (v:=.int ns[k.toNat]) (by simp [hk])
   rw [show((k.toNat:Nat):Int)=k by omega] at z
   exact z
  exact⟨_,rfl,_,rfl,a,_,k,_,rfl,rfl,hS,e,q _⟩
 ·exact q 0
theorem nY:aC ["_law_cell","_law_k","_law_factor"] ["_law_cell","_law_k"] (av kU):=⟨rfl,rfl,rfl,by decide +kernel,rfl,by decide +kernel,by decide +kernel⟩
theorem xK (F:du K "_law_mix" "_law_mix" kU f fd):aU P w K mg base fK 1 f fd ["_law_cell","_law_k"] Dp:=by
 refine F.ok nY (fun vs H Q E h=>?_) (fun cE A outer s H vs Q E hr h=>?_)
 ·obtain⟨c,k,rfl,_⟩:=h
  rfl
 obtain⟨c,k,rfl,h0,h1,q⟩:=h
 refine⟨_,(af (ay (i:=2) nY.nd rfl (W6 rfl) (aA az (aL (aa ak (aa ak (aa ak (aa ak (aa ak (aa ak (aa ak ag)))))))) (ar bQ (pv 1) ak) (fun _ _=>rfl)))
 (ao (aF (ar bQ (ar t6 (ar de (ar bQ (pv 0) ak) (ar t6 ak (pv 1))) (pv 2)) ak)))),?_⟩
 refine⟨(by show 7≤Wt;decide),fun p hp=>?_⟩
 have hm:=mid (a:=k) (b:=7) (by decide)
 have hx:∃v:Int,wx [V.int 48271,.int 69621,.int 16807,.int 40692,.int 30269,.int 62089,.int 45991] (k % 7)=some (.int v)∧-(2 ^ 64)<v∧v<2 ^ 64:=by
  rcases(by omega:k % 7=0∨k % 7=1∨k % 7=2∨k % 7=3∨k % 7=4∨k % 7=5∨k % 7=6) with e|e|e|e|e|e|e <;> rw [e]
  ·exact⟨48271,rfl,by decide,by decide⟩
  ·exact⟨69621,rfl,by decide,by decide⟩
  ·exact⟨16807,rfl,by decide,by decide⟩
  ·exact⟨40692,rfl,by decide,by decide⟩
  ·exact⟨30269,rfl,by decide,by decide⟩
  ·exact⟨62089,rfl,by decide,by decide⟩
  ·exact⟨45991,rfl,by decide,by decide⟩
 obtain⟨v,hv,v0,v1⟩:=hx
 refine⟨_,rfl,_,_,rfl,rfl,(by show(0:Int)<7;decide),p,_,_,_,rfl,rfl,.inl (.inl ae),hv,?_⟩
 refine⟨_,rfl,_,_,rfl,rfl,(by show(0:Int)<1000003;decide),_,rfl,_,_,rfl,rfl,.inl ⟨by decide,by decide⟩,_,_,rfl,rfl,_,rfl,_,_,rfl,rfl,.inr ⟨v0,v1⟩,_,_,rfl,rfl,(by show(0:Int)<999983;decide),?_⟩
 exact q _ _ (ai hp _) (YQ _ (by decide))
theorem bx:aC ["_law_cell","_law_many","_law_firsts","_law_rest","_law_number","_law_start","_law_tail","_law_size","_law_at"] ["_law_cell","_law_many","_law_firsts"] (av ij):=⟨rfl,rfl,rfl,by decide +kernel,rfl,by decide +kernel,by decide +kernel⟩
theorem rN (F:du K "_law_names" "_law_names" ij f fd) (dR:gD P w K mg base "_law_mix" 1 ["_law_cell","_law_k"] Dp) (bo:mg "len"=none) (pj:mg "range"=none) :
  aU P w K mg base fK 2 f fd ["_law_cell","_law_many","_law_firsts"] ux:=by
 refine F.ok bx (fun vs H Q E h=>?_) (fun cE A outer s H vs Q E hr h=>?_)
 ·obtain⟨c,n,fs,rfl,_⟩:=h
  rfl
 obtain⟨c,n,fs,rfl,hn,Wi,Wj,L9,hnd,q⟩:=h
 have Fx:(S fs).length=fs.length:=aV fs
 refine⟨_,(af (ay (i:=3) bx.nd rfl (aam rfl) aq)
 (af (ay (i:=4) bx.nd rfl (aam rfl) (ax dR (hr.mono (by decide)) rfl (aa (pv 0) (aa ak ag))))
 (af (ay (i:=5) bx.nd rfl (aam rfl) (ar bQ (ar eW (pv 4) ak) (aJ dq rfl bo W0 (aa (pv 2) ag))))
 (af (ay (i:=6) bx.nd rfl (aam rfl) (dg Yo aac aad zX aq (aa (dc [3,4] rfl (by kernel_rfl) (jL rfl pj (aa ak ag)) (fun _ _ _ _ _=>cT) (fun _ _ _ _ _=>(aA fR (pv 1) (ar bQ (ar de (ar eW (pv 2) (ar de (pv 0) ak)) (ar t6 (pv 0) (pv 0))) ak) (fun _ _=>rfl)))) ag)))
 (af (aX (aB dm (ar bQ (pv 4) ak) ak (aK _))
 (ao (aF (dc [2,5,6] rfl (by kernel_rfl) (jL rfl pj (aa (pv 1) ag)) (fun _ _ _ _ _=>cT) (fun _ _ _ _ _=>(ar ah (aA fR (pv 1) (pv 2) (fun _ _=>rfl)) (cg iW (pv 3) dW (cb (pv 0))))))))
 aE)
 (af (aX (aB dm (ar bQ (pv 4) ak) ak (aK _))
 (af (ay (i:=7) bx.nd rfl (aam rfl) (ar bQ (ar eW (pv 4) ak) ak))
 (ao (aF (dc [2,5,6,7] rfl (by kernel_rfl) (jL rfl pj (aa (pv 1) ag)) (fun _ _ _ _ _=>cT) (fun _ _ _ _ _=>(ar ah (aA fR (pv 1) (ar bQ (ar de (pv 2) (pv 0)) (aJ dq rfl bo W0 (aa (pv 1) ag))) (fun _ _=>rfl)) (cg iW (pv 3) dW (cb (pv 4)))))))))
 aE)
 (af (ay (i:=7) bx.nd rfl (aam rfl) (ar bQ (ar eW (pv 4) ak) ak))
 (af (ay (i:=8) bx.nd rfl (aam rfl) (ar bQ (ar eW (pv 4) ak) (ar de (pv 7) ak)))
 (af (ay (i:=3) bx.nd rfl (aam rfl) (dc [3,4] rfl (by kernel_rfl) (jL rfl pj (aa (pv 1) ag)) (fun _ _ _ _ _=>cT) (fun _ _ _ _ _=>(aA fR (pv 1) (ar bQ (ar de (ar eW (pv 2) ak) (pv 0)) ak) (fun _ _=>rfl)))))
 (ao (aF (dc [2,5,6,8,7] rfl (by kernel_rfl) (bj (pv 3)) (fun _ _ _ _ _=>cT) (fun _ _ _ _ _=>(ar ah (ar ah (ar ah (aA fR (pv 1) (pv 2) (fun _ _=>rfl)) (cg iW (pv 3) dW (cb (pv 4)))) (pv 0)) (cg iW (pv 3) (cb (pv 4)) (cb (pv 5))))))))))))))))),?_⟩
 refine⟨_,rfl,c,0,rfl,by decide,by decide,fun v H1 s1 v0=>?_⟩
 have JG:(0:Int)<((S fs).length:Int):=by rw [Fx];omega
 refine⟨_,rfl,_,_,rfl,rfl,⟨by decide,by decide⟩,_,rfl,S fs,rfl,(by rw [Fx];exact sz (by omega)),_,_,rfl,rfl,JG,?_⟩
 have md:=mid (a:=v / 5) JG
 obtain⟨cs,Jt,P7⟩:=sign_of (x:=S fs) md.1 md.2
 rw [ba] at P7
 refine⟨rfl,11,rfl,by decide,by decide,fun D hD=>?_⟩
 have uf:H D=none:=s1.free hD
 refine gY (lo:=0) (n:=(11:Int).toNat) (lu (by decide)) (fun i ys H'=>aj H1 H'∧H' D=some (.lst ys)∧∃T:List Nat,ys=(T.map fun c=>S [c]).map V.str∧T.length=i∧T.all aG=true)
  ⟨ai hD _,ae,[],rfl,rfl,rfl⟩ (fun i ys H' pr=>⟨pr.2.1,?_⟩) (fun i ys H' hi pr=>?_) (fun ys H' pr=>?_)
 ·obtain⟨T,rfl,hl,_⟩:=pr.2.2
  rw [Lm9,Lm9]
  omega
 ·obtain⟨T,rfl,hl,hT⟩:=pr.2.2
  have hi':i<11:=hi
  refine⟨_,rfl,_,rfl,_,rfl,_,_,rfl,rfl,_,_,rfl,rfl,⟨by omega,by omega⟩,_,rfl,_,rfl,_,_,rfl,rfl,.inl ⟨by omega,by omega⟩,_,_,rfl,rfl,_,_,rfl,rfl,(by show(0:Int)<62;decide),?_⟩
  have Ma:=mid (a:=v / (0+(i:Int)+1)+(0+(i:Int)) * (0+(i:Int))) (b:=62) (by decide)
  obtain⟨d,hd,Nk⟩:=sign_of (x:=uu) Ma.1 (by rw [lQ];exact Ma.2)
  refine⟨_,_,d,rfl,rfl,(by decide +kernel),hd,pr.2.1,?_⟩
  refine⟨aj.aS pr.1 hD _,ae,T++[d],by simp,by simp [hl],?_⟩
  have z:=Dm
  rw [Xa] at z
  rw [Xi,hT,XJ,z d Nk]
  rfl
 obtain⟨T,rfl,U8,Je⟩:=pr.2.2
 have sm:=pr.1
 have Mb:T.length=11:=U8
 refine⟨_,D,T.map fun c=>S [c],rfl,rfl,.inl (.inl (.inl pr.2.1)),?_,?_⟩
 ·have z:((T.map fun c=>S [c]).map (·.length)).sum≤11:=by
   have z2:=uw (as:=T.map fun c=>[c]) (B:=1) (by simp)
   rw [Lm9,Mb] at z2
   have e:(T.map fun c=>S [c])=(T.map fun c=>[c]).map S:=by rw [XT];rfl
   rw [e]
   exact z2
  have z3:(T.map fun c=>S [c]).length=11:=by rw [Lm9];exact Mb
  rw [z3,show(Wn "").length=0 by decide]
  omega
 rw [Iq]
 refine⟨_,rfl,_,_,rfl,rfl,(by show(0:Int)<3;decide),rfl,_,rfl,?_⟩
 have GW:∀l:List Nat,l.length≤100→(S l).length≤Wt:=fun l h=>by rw [aV];exact sz (by omega)
 have vZ:wx (S fs).cps.toList (v / 5 % ((S fs).length:Int))=some cs:=Jt
 have Sj:(⟨#[cs]⟩:Str)=S [cs]:=rfl
 refine iN (fun c1=>?_) (fun c1=>?_)
 ·
  refine⟨_,rfl,n,rfl,by omega,by omega,fun D2 mw=>?_⟩
  refine gY (lo:=0) (n:=((n:Nat):Int).toNat) (lu (by omega)) (fun i ys H2=>aj H H2∧H2 D2=some (.lst ys)∧∃zs:List (List Nat),ys=zs.map tx∧zs.length=i∧(∀z∈zs,Good fs z)∧zs=(X0 i).map fun k:Nat=>[cs]++T.take k)
   ⟨aj.aS (aj.trans s1 sm) ((aj.trans s1 sm).free mw) _,ae,[],rfl,rfl,(fun _ z=>nomatch z),rfl⟩ (fun i ys H2 jW=>⟨jW.2.1,?_⟩) (fun i ys H2 hi jW=>?_) (fun ys H2 jW=>?_)
  ·obtain⟨zs,rfl,hl,_,_⟩:=jW.2.2
   rw [Lm9]
   omega
  ·obtain⟨zs,rfl,hl,hg,AJ⟩:=jW.2.2
   have hi':i<n:=by omega
   refine⟨_,rfl,_,rfl,S fs,_,cs,rfl,rfl,GW fs (by omega),vZ,_,rfl,_,rfl,_,rfl,S T,rfl,GW T (by omega),?_⟩
   rw [show(0:Int)+(i:Int)=((i:Nat):Int) by omega,pZ (by omega),Sj]
   refine⟨_,_,rfl,rfl,(by rw [aV,aV,WV];exact sz (by simp;omega)),?_⟩
   rw [xf]
   refine⟨jW.2.1,aj.aS jW.1 ((aj.trans s1 sm).free mw) _,ae,zs++[[cs]++T.take i],by simp,by simp [hl],fun z hz=>?_,by rw [Ze,WQ,AJ];rfl⟩
   rcases WU.mp hz with hz|hz
   ·exact hg z hz
   ·rw [Wy.mp hz]
    refine uz P7 L9 ?_ (by rw [WV];omega)
    rw [Xa] at Je ⊢
    exact fun y hy=>Je y (Xz hy)
  ·obtain⟨zs,rfl,hl,hg,AJ⟩:=jW.2.2
   refine q D2 zs H2 jW.1 ((aj.trans s1 sm).free mw) jW.2.1 (by omega) hg ?_
   rw [AJ]
   refine eD fun a b ha hb e=>?_
   have e2:=congrArg XF e
   rw [Wq,Wq,WV,WV] at e2
   omega
 refine⟨_,rfl,_,_,rfl,rfl,(by show(0:Int)<3;decide),rfl,_,rfl,?_⟩
 refine iN (fun c2=>?_) (fun c2=>?_)
 ·refine⟨_,rfl,_,_,rfl,rfl,⟨by decide,by decide⟩,_,_,rfl,rfl,(by show(0:Int)<12;decide),?_⟩
  have U9:=mid (a:=v / 3) (b:=12) (by decide)
  refine⟨_,rfl,n,rfl,by omega,by omega,fun D2 mw=>?_⟩
  refine gY (lo:=0) (n:=((n:Nat):Int).toNat) (lu (by omega)) (fun i ys H2=>aj H H2∧H2 D2=some (.lst ys)∧∃zs:List (List Nat),ys=zs.map tx∧zs.length=i∧(∀z∈zs,Good fs z)∧zs=(X0 i).map fun k:Nat=>[fs.getD ((v / 5 % ((S fs).length:Int)+(0+(k:Int))) % ((S fs).length:Int)).toNat 0]++T.take (v / 3 % 12).toNat)
   ⟨aj.aS (aj.trans s1 sm) ((aj.trans s1 sm).free mw) _,ae,[],rfl,rfl,(fun _ z=>nomatch z),rfl⟩ (fun i ys H2 jW=>⟨jW.2.1,?_⟩) (fun i ys H2 hi jW=>?_) (fun ys H2 jW=>?_)
  ·obtain⟨zs,rfl,hl,_,_⟩:=jW.2.2
   rw [Lm9]
   omega
  ·obtain⟨zs,rfl,hl,hg,AJ⟩:=jW.2.2
   have hi':i<n:=by omega
   have Sk:=mid (a:=v / 5 % ((S fs).length:Int)+(0+(i:Int))) JG
   have P8:=pS (x:=S fs) Sk.1 Sk.2
   have Mc:fs.getD ((v / 5 % ((S fs).length:Int)+(0+(i:Int))) % ((S fs).length:Int)).toNat 0∈fs:=Xy (getD_get (by rw [← Fx];omega))
   rw [ba fs] at P8
   generalize P9:fs.getD ((v / 5 % ((S fs).length:Int)+(0+(i:Int))) % ((S fs).length:Int)).toNat 0=ck at P8 Mc
   refine⟨_,rfl,_,rfl,_,rfl,_,_,rfl,rfl,_,rfl,S fs,rfl,GW fs (by omega),_,_,rfl,rfl,JG,S fs,_,ck,rfl,rfl,GW fs (by omega),(by rw [ba];exact P8),_,rfl,_,rfl,_,rfl,S T,rfl,GW T (by omega),?_⟩
   have hsz:v / 3 % 12=(((v / 3 % 12).toNat:Nat):Int):=by omega
   rw [hsz,pZ (by omega)]
   refine⟨_,_,rfl,rfl,(by rw [aV,aV,WV];exact sz (by simp;omega)),?_⟩
   rw [show(⟨#[ck]⟩:Str)=S [ck] from rfl,xf]
   refine⟨jW.2.1,aj.aS jW.1 ((aj.trans s1 sm).free mw) _,ae,zs++[[ck]++T.take (v / 3 % 12).toNat],by simp,by simp [hl],fun z hz=>?_,by rw [Ze,WQ,AJ,← P9];rfl⟩
   rcases WU.mp hz with hz|hz
   ·exact hg z hz
   ·rw [Wy.mp hz]
    refine uz Mc L9 ?_ (by rw [WV];omega)
    rw [Xa] at Je ⊢
    exact fun y hy=>Je y (Xz hy)
  ·obtain⟨zs,rfl,hl,hg,AJ⟩:=jW.2.2
   refine q D2 zs H2 jW.1 ((aj.trans s1 sm).free mw) jW.2.1 (by omega) hg ?_
   rw [AJ]
   refine eD fun a b ha hb e=>?_
   have e2:fs.getD ((v / 5 % ((S fs).length:Int)+(0+(a:Int))) % ((S fs).length:Int)).toNat 0=fs.getD ((v / 5 % ((S fs).length:Int)+(0+(b:Int))) % ((S fs).length:Int)).toNat 0:=(List.cons.inj e).1
   have e3:=p7 hnd (by have:=mid (a:=v / 5 % ((S fs).length:Int)+(0+(a:Int))) JG;omega) (by have:=mid (a:=v / 5 % ((S fs).length:Int)+(0+(b:Int))) JG;omega) e2
   exact Ah (by omega) (by omega) e3
 refine⟨_,rfl,_,_,rfl,rfl,⟨by decide,by decide⟩,_,_,rfl,rfl,(by show(0:Int)<11;decide),?_⟩
 have U9:=mid (a:=v / 3) (b:=11) (by decide)
 refine⟨_,rfl,_,_,rfl,rfl,⟨by decide,by decide⟩,_,rfl,_,_,rfl,rfl,_,_,rfl,rfl,(by show(0:Int)<_;omega),?_⟩
 have Va:=mid (a:=v / 33) (b:=v / 3 % 11+1) (by omega)
 refine⟨_,rfl,n,rfl,by omega,by omega,fun D2 mw=>?_⟩
 refine gY (lo:=0) (n:=((n:Nat):Int).toNat) (lu (by omega)) (fun i ys H2=>aj H H2∧H2 D2=some (.lst ys)∧∃cs:List Nat,ys=(cs.map fun c=>[c]).map tx∧cs.length=i∧(∀c∈cs,aG c=true)∧cs=(X0 i).map fun k:Nat=>uu.cps.toList.getD ((v / 7+(0+(k:Int))) % ((62:Nat):Int)).toNat 0)
  ⟨aj.aS (aj.trans s1 sm) ((aj.trans s1 sm).free mw) _,ae,[],rfl,rfl,(fun _ z=>nomatch z),rfl⟩ (fun i ys H2 jW=>⟨jW.2.1,?_⟩) (fun i ys H2 hi jW=>?_) (fun ys H2 jW=>?_)
 ·obtain⟨cs,rfl,hl,_,_⟩:=jW.2.2
  rw [Lm9,Lm9]
  omega
 ·obtain⟨zs,rfl,hl,hg,AJ⟩:=jW.2.2
  have Ma:=mid (a:=v / 7+(0+(i:Int))) (b:=62) (by decide)
  have hd:=pS (x:=uu) Ma.1 (by rw [lQ];exact Ma.2)
  have Nk:uu.cps.toList.getD ((v / 7+(0+(i:Int))) % 62).toNat 0∈uu.cps.toList:=Xy (getD_get (by rw [ej,lQ];omega))
  generalize Vb:uu.cps.toList.getD ((v / 7+(0+(i:Int))) % 62).toNat 0=d at hd Nk
  refine⟨_,rfl,_,rfl,_,_,rfl,rfl,⟨by decide,by decide⟩,_,rfl,_,_,rfl,rfl,_,_,rfl,rfl,(by show(0:Int)<62;decide),_,_,d,rfl,rfl,(by decide +kernel),hd,jW.2.1,?_⟩
  refine⟨aj.aS jW.1 ((aj.trans s1 sm).free mw) _,ae,zs++[d],by simp,by simp [hl],fun z hz=>?_,by rw [Ze,WQ,AJ,← Vb];rfl⟩
  rcases WU.mp hz with hz|hz
  ·exact hg z hz
  ·rw [Wy.mp hz]
   have z:=Dm
   rw [Xa] at z
   exact z d Nk
 obtain⟨ks,rfl,R9,Vc,JF⟩:=jW.2.2
 have pJ:=jW.1
 have FD:=jW.2.1
 refine⟨_,rfl,D2,rfl,⟨_,aI.of FD⟩,fun D3 JH=>?_⟩
 obtain⟨pa,Nh⟩:∃pa:Nat,v / 33 % (v / 3 % 11+1)=(pa:Int):=⟨_,(Int.toNat_of_nonneg Va.1).symm⟩
 obtain⟨pb,Vd⟩:∃pb:Nat,v / 3 % 11=((pa+pb:Nat):Int):=⟨(v / 3 % 11 - pa).toNat,by omega⟩
 have Sl:D2≠D3:=fun z=>by rw [z,JH] at FD;cases FD
 refine gA (K:=K) (a:=D2) (xs:=(ks.map fun c=>[c]).map tx) (by rw [Lm9,Lm9];exact lu (by omega))
  (fun i ys H3=>aj H H3∧H3 D3=some (.lst ys)∧H3 D2=some (.lst ((ks.map fun c=>[c]).map tx))∧∃zs:List (List Nat),ys=zs.map tx∧zs.length=i∧(∀z∈zs,Good fs z)∧zs=(X0 i).map fun k:Nat=>(([cs]++T.take pa)++[ks.getD k 0])++(T.drop pa).take pb)
  ⟨aj.aS pJ (pJ.free JH) _,ae,by rw [aw Sl];exact FD,[],rfl,rfl,(fun _ z=>nomatch z),rfl⟩ (fun i ys H3 BI=>aI.of BI.2.2.1) (fun i ys H3 BI=>⟨BI.2.1,?_⟩) (fun i ys H3 hi BI=>?_) (fun ys H3 BI=>?_)
 ·obtain⟨zs,rfl,hl,_,_⟩:=BI.2.2.2
  rw [Lm9]
  omega
 ·obtain⟨zs,rfl,hl,hg,AJ⟩:=BI.2.2.2
  have hi':i<ks.length:=by simpa using hi
  have eg:((ks.map fun c=>[c]).map tx).getD i .bG=tx [ks[i]]:=by
   rw [Gd9,WX,WX,Ge9 hi']
   rfl
  rw [eg]
  refine⟨_,rfl,_,rfl,S fs,_,cs,rfl,rfl,GW fs (by omega),vZ,_,rfl,_,rfl,_,rfl,S T,rfl,GW T (by omega),?_⟩
  rw [Nh,pZ (by omega),Sj]
  refine⟨_,_,rfl,rfl,(by rw [aV,aV,WV];exact sz (by simp;omega)),?_⟩
  rw [xf]
  refine⟨_,rfl,_,_,rfl,rfl,(by rw [aV,aV,Wq,WV];exact sz (by simp;omega)),?_⟩
  rw [xf]
  refine⟨_,rfl,_,rfl,_,rfl,_,rfl,_,rfl,S T,rfl,GW T (by omega),?_⟩
  have e2:=Ab (x:=S T) (p:=pa) (n:=pb) (by rw [aV];omega)
  rw [ba] at e2
  rw [Nh,Vd,e2]
  refine⟨_,_,rfl,rfl,(by rw [aV,aV,Wq,Wq,WV,WV,Xc];exact sz (by simp;omega)),?_⟩
  rw [xf]
  refine⟨BI.2.1,aj.aS BI.1 (pJ.free JH) _,ae,by rw [aw Sl];exact BI.2.2.1,zs++[(([cs]++T.take pa)++[ks[i]])++(T.drop pa).take pb],by simp,by simp [hl],fun z hz=>?_,by rw [Ze,WQ,AJ];simp only [Xd,YY];rw [Gd9 (i:=i),Ge9 hi'];rfl⟩
  rcases WU.mp hz with hz|hz
  ·exact hg z hz
  ·rw [Wy.mp hz]
   rw [WK,WK]
   refine uz P7 L9 ?_ ?_
   ·rw [Xa] at Je ⊢
    intro y hy
    rcases WU.mp hy with hy|hy
    ·exact Je y (Xz hy)
    ·rcases WU.mp hy with hy|hy
     ·rw [Wy.mp hy]
      exact Vc _ (WT hi')
     ·exact Je y (Yw (Xz hy))
   ·rw [Wq,Wq,WV,WV,Xc]
    simp
    omega
 ·obtain⟨zs,rfl,hl,hg,AJ⟩:=BI.2.2.2
  have Ve:ks.length=n:=by omega
  rw [Lm9,Lm9] at AJ hl
  refine q D3 zs H3 BI.1 (pJ.free JH) BI.2.1 (by omega) hg ?_
  rw [AJ]
  refine eD fun a b ha hb e=>?_
  have e3:[ks.getD a 0]=[ks.getD b 0]:=by
   have z:=List.append_inj_left' e rfl
   exact List.append_inj_right z rfl
  have e4:ks.getD a 0=ks.getD b 0:=(List.cons.inj e3).1
  have gk:∀k,k<n→ks.getD k 0=uu.cps.toList.getD ((v / 7+(0+(k:Int))) % ((62:Nat):Int)).toNat 0:=fun k hk=>by
   rw [JF,Gd9,WX,List.getElem?_range (by omega)]
   rfl
  rw [gk a (by omega),gk b (by omega)] at e4
  have e5:=p7 (by decide +kernel) (by rw [ej,lQ];have:=mid (a:=v / 7+(0+(a:Int))) (b:=62) (by decide);omega) (by rw [ej,lQ];have:=mid (a:=v / 7+(0+(b:Int))) (b:=62) (by decide);omega) e4
  exact Ah (by omega) (by omega) e5
theorem qx:aC ["_law_cell","_law_many"] ["_law_cell","_law_many"] (av fZ):=⟨rfl,rfl,rfl,by decide +kernel,rfl,by decide +kernel,by decide +kernel⟩
theorem qy (F:du K "_law_titles" "_law_titles" fZ f fd) (cU:gD P w K mg base "_law_names" 2 ["_law_cell","_law_many","_law_firsts"] ux):aU P w K mg base fK 3 f fd ["_law_cell","_law_many"] (uy cX.cps.toList):=by
 refine F.ok qx (fun vs H Q E h=>?_) (fun cE A outer s H vs Q E hr h=>?_)
 ·obtain⟨c,n,rfl,_⟩:=h
  rfl
 obtain⟨c,n,rfl,hn,q⟩:=h
 refine⟨_,(ao (aF (ax cU (hr.mono (by decide)) rfl (aa (pv 0) (aa (pv 1) (aa aq ag)))))),?_⟩
 exact⟨_,rfl,_,rfl,c,n,cX.cps.toList,(by show [V.int c,V.int n,V.str cX]=[V.int c,V.int n,V.str (S cX.cps.toList)];rw [rj]),hn,by decide +kernel,by decide +kernel,by decide +kernel,by decide +kernel,q⟩
theorem rO:aC ["_law_cell","_law_many"] ["_law_cell","_law_many"] (av ik):=⟨rfl,rfl,rfl,by decide +kernel,rfl,by decide +kernel,by decide +kernel⟩
theorem rP (F:du K "_law_opens" "_law_opens" ik f fd) (cU:gD P w K mg base "_law_names" 2 ["_law_cell","_law_many","_law_firsts"] ux):aU P w K mg base fK 3 f fd ["_law_cell","_law_many"] (uy dJ.cps.toList):=by
 refine F.ok rO (fun vs H Q E h=>?_) (fun cE A outer s H vs Q E hr h=>?_)
 ·obtain⟨c,n,rfl,_⟩:=h
  rfl
 obtain⟨c,n,rfl,hn,q⟩:=h
 refine⟨_,(ao (aF (ax cU (hr.mono (by decide)) rfl (aa (pv 0) (aa (pv 1) (aa aq ag)))))),?_⟩
 exact⟨_,rfl,_,rfl,c,n,dJ.cps.toList,(by show [V.int c,V.int n,V.str dJ]=[V.int c,V.int n,V.str (S dJ.cps.toList)];rw [rj]),hn,by decide +kernel,by decide +kernel,by decide +kernel,by decide +kernel,q⟩
end
end iR
namespace iR
open PySem L2 bB Bk
set_option maxHeartbeats 4000000
section
variable {P:WM} {w:Xj} {K:Wo} {mg:Str→Option Wr} {base:Heap} {f:WA} {fd:Xk} {c:Cl} {C:WA}
theorem cv:aC ["_law_n","_law_great","_law_rows"] ["_law_n","_law_great"] (av eI):=⟨rfl,rfl,rfl,by decide +kernel,rfl,by decide +kernel,by decide +kernel⟩
theorem ni (F:du K "_law_bad_kind" "_law_bad_kind" eI f fd):aU P w K mg base fK 1 f fd ["_law_n","_law_great"] (mY 18):=by
 refine F.ok cv (fun vs H Q E h=>?_) (fun cE A outer s H vs Q E hr h=>?_)
 ·obtain⟨n,g,rfl,_⟩:=h
  rfl
 obtain⟨n,g,rfl,N,q⟩:=h
 refine⟨_,(af (ay (i:=2) cv.nd rfl (W6 rfl) (aL (aa (ar ah aq (pv 0)) (aa (ar ah (ar ah aq (pv 0)) aq) (aa (ar ah (ar ah aq (pv 0)) aq) (aa (ar ah (ar ah aq (pv 1)) aq) ag))))))
 (af (ay (i:=2) cv.nd rfl (W6 rfl) (ar cB (pv 2) (aL (aa (ar ah (ar ah aq (cg iW (pv 0) dW (cb ak))) aq) (aa (ar ah (ar ah aq (pv 0)) aq) (aa (ar ah (ar ah (pv 0) aq) (pv 0)) (aa (ar ah (ar ah aq (pv 0)) aq) (aa aq ag))))))))
 (af (ay (i:=2) cv.nd rfl (W6 rfl) (ar cB (pv 2) (aL (aa (ar ah (ar ah aq (pv 0)) aq) (aa (ar ah (ar ah aq (pv 0)) aq) (aa (ar ah (ar ah aq (pv 0)) aq) (aa aq (aa aq ag))))))))
 (af (ay (i:=2) cv.nd rfl (W6 rfl) (ar cB (pv 2) (aL (aa (ar ah (ar ah aq (pv 0)) aq) (aa (ar ah (ar ah aq (pv 0)) aq) (aa (ar ah (ar ah aq (pv 0)) aq) (aa (ar ah (ar ah aq (pv 0)) aq) ag)))))))
 (ao (aF (pv 2))))))),?_⟩
 refine⟨_,rfl,_,_,rfl,rfl,(bR lr N.an),_,rfl,_,_,rfl,rfl,(bR lr N.an),_,_,rfl,rfl,(bR (kE lr N.an) lr),_,rfl,_,_,rfl,rfl,(bR lr N.an),_,_,rfl,rfl,(bR (kE lr N.an) lr),_,rfl,_,_,rfl,rfl,(bR lr N.bn),_,_,rfl,rfl,(bR (kE lr N.bn) lr),(by show 4≤Wt;decide),fun p0 Md=>?_⟩
 generalize hG:upd H p0 _=G0
 have y:=congrFun hG p0
 rw [ae] at y
 obtain⟨u0,y0,b0,n0⟩:∃us,G0 p0=some (.lst us)∧cM us∧us.length=4:=⟨_,y.symm,(.cons (.Le N.a (by decide +kernel)) (.cons (.kind N.a (by decide +kernel)) (.cons (.kind N.a (by decide +kernel)) (.cons (.Lf N.b N.bs (by decide +kernel)) .nil)))),rfl⟩
 have s0:aj H G0:=by rw [← hG];exact ai Md _
 clear hG y
 refine⟨_,rfl,_,rfl,_,rfl,_,rfl,(W5 N.an (by decide)),_,_,rfl,rfl,(bR lr (N.x _ _).2.2),_,_,rfl,rfl,(bR (kE lr (N.x _ _).2.2) lr),_,rfl,_,_,rfl,rfl,(bR lr N.an),_,_,rfl,rfl,(bR (kE lr N.an) lr),_,rfl,_,_,rfl,rfl,(bR N.an lr),_,rfl,_,_,rfl,rfl,(bR (kE N.an lr) N.an),_,rfl,_,_,rfl,rfl,(bR lr N.an),_,_,rfl,rfl,(bR (kE lr N.an) lr),(by show 5≤Wt;decide),fun p1 I8=>?_⟩
 generalize hG:upd G0 p1 _=G1
 have y:=congrFun hG p1
 rw [ae] at y
 obtain⟨u1,y1,b1,n1⟩:∃us,G1 p1=some (.lst us)∧cM us∧us.length=5:=⟨_,y.symm,(.cons (.OU (A:=aP++[32]) (N.x _ _).1 (N.x _ _).2.1 (by decide +kernel) (by decide +kernel)) (.cons (.kind N.a (by decide +kernel)) (.cons (.twice N.a) (.cons (.kind N.a (by decide +kernel)) (.cons (jf (by decide +kernel)) .nil))))),rfl⟩
 have s1:aj G0 G1:=by rw [← hG];exact ai I8 _
 clear hG y
 refine⟨p0,p1,_,_,rfl,rfl,s1 _ _ y0,y1,sz (by omega),fun c1 GX=>?_⟩
 generalize hG:upd G1 c1 _=K1
 have z1:K1 c1=some (.lst (u0++u1)):=by rw [← hG];exact ae
 have t1:aj H K1:=aj.trans s0 (aj.trans s1 (by rw [← hG];exact ai GX _))
 have d1:(u0++u1).length=9:=by rw [Wq];omega
 have a1:=cM.app b0 b1
 have f1:H c1=none:=aj.free (aj.trans s0 s1) GX
 clear hG
 generalize u0++u1=v1 at z1 d1 a1 ⊢
 refine⟨_,rfl,_,rfl,_,_,rfl,rfl,(bR lr N.an),_,_,rfl,rfl,(bR (kE lr N.an) lr),_,rfl,_,_,rfl,rfl,(bR lr N.an),_,_,rfl,rfl,(bR (kE lr N.an) lr),_,rfl,_,_,rfl,rfl,(bR lr N.an),_,_,rfl,rfl,(bR (kE lr N.an) lr),(by show 5≤Wt;decide),fun p2 C0=>?_⟩
 generalize hG:upd K1 p2 _=G2
 have y:=congrFun hG p2
 rw [ae] at y
 obtain⟨u2,y2,b2,n2⟩:∃us,G2 p2=some (.lst us)∧cM us∧us.length=5:=⟨_,y.symm,(.cons (.kind N.a (by decide +kernel)) (.cons (.long N.a N.al) (.cons (.kind N.a (by decide +kernel)) (.cons (jf (by decide +kernel)) (.cons (jf (by decide +kernel)) .nil))))),rfl⟩
 have s2:aj K1 G2:=by rw [← hG];exact ai C0 _
 clear hG y
 refine⟨c1,p2,_,_,rfl,rfl,s2 _ _ z1,y2,sz (by omega),fun c2 GY=>?_⟩
 generalize hG:upd G2 c2 _=K2
 have z2:K2 c2=some (.lst (v1++u2)):=by rw [← hG];exact ae
 have t2:aj H K2:=aj.trans t1 (aj.trans s2 (by rw [← hG];exact ai GY _))
 have d2:(v1++u2).length=14:=by rw [Wq];omega
 have a2:=cM.app a1 b2
 have f2:H c2=none:=aj.free (aj.trans t1 s2) GY
 clear hG
 generalize v1++u2=v2 at z2 d2 a2 ⊢
 refine⟨_,rfl,_,rfl,_,_,rfl,rfl,(bR lr N.an),_,_,rfl,rfl,(bR (kE lr N.an) lr),_,rfl,_,_,rfl,rfl,(bR lr N.an),_,_,rfl,rfl,(bR (kE lr N.an) lr),_,rfl,_,_,rfl,rfl,(bR lr N.an),_,_,rfl,rfl,(bR (kE lr N.an) lr),_,rfl,_,_,rfl,rfl,(bR lr N.an),_,_,rfl,rfl,(bR (kE lr N.an) lr),(by show 4≤Wt;decide),fun p3 Me=>?_⟩
 generalize hG:upd K2 p3 _=G3
 have y:=congrFun hG p3
 rw [ae] at y
 obtain⟨u3,y3,b3,n3⟩:∃us,G3 p3=some (.lst us)∧cM us∧us.length=4:=⟨_,y.symm,(.cons (.kind N.a (by decide +kernel)) (.cons (.kind N.a (by decide +kernel)) (.cons (.kind N.a (by decide +kernel)) (.cons (.joined N.a) .nil)))),rfl⟩
 have s3:aj K2 G3:=by rw [← hG];exact ai Me _
 clear hG y
 refine⟨c2,p3,_,_,rfl,rfl,s3 _ _ z2,y3,sz (by omega),fun c3 GZ=>?_⟩
 generalize hG:upd G3 c3 _=K3
 have z3:K3 c3=some (.lst (v2++u3)):=by rw [← hG];exact ae
 have t3:aj H K3:=aj.trans t2 (aj.trans s3 (by rw [← hG];exact ai GZ _))
 have d3:(v2++u3).length=18:=by rw [Wq];omega
 have a3:=cM.app a2 b3
 have f3:H c3=none:=aj.free (aj.trans t2 s3) GZ
 clear hG
 generalize v2++u3=v3 at z3 d3 a3 ⊢
 exact⟨_,rfl,q c3 _ _ t3 f3 z3 a3 (by omega)⟩
theorem br:aC ["_law_n","_law_great","_law_r","_law_rows"] ["_law_n","_law_great"] (av dO):=⟨rfl,rfl,rfl,by decide +kernel,rfl,by decide +kernel,by decide +kernel⟩
theorem lW (F:du K "_law_bad_heads" "_law_bad_heads" dO f fd):aU P w K mg base fK 1 f fd ["_law_n","_law_great"] (mY 28):=by
 refine F.ok br (fun vs H Q E h=>?_) (fun cE A outer s H vs Q E hr h=>?_)
 ·obtain⟨n,g,rfl,_⟩:=h
  rfl
 obtain⟨n,g,rfl,N,q⟩:=h
 refine⟨_,(af (ay (i:=2) br.nd rfl (W6 rfl) (ar ah aq (pv 0)))
 (af (ay (i:=3) br.nd rfl (W6 rfl) (aL (aa (pv 2) (aa (ar ah (pv 2) aq) (aa (ar ah (pv 2) aq) (aa (ar ah (ar ah aq (pv 1)) aq) (aa (ar ah (pv 2) aq) (aa (ar ah (pv 2) aq) ag))))))))
 (af (ay (i:=3) br.nd rfl (W6 rfl) (ar cB (pv 3) (aL (aa (ar ah (pv 2) aq) (aa (ar ah (pv 2) aq) (aa (ar ah (pv 2) aq) (aa (ar ah (pv 2) aq) ag)))))))
 (af (ay (i:=3) br.nd rfl (W6 rfl) (ar cB (pv 3) (aL (aa (ar ah (pv 2) aq) (aa (ar ah (pv 2) aq) (aa (ar ah (ar ah (pv 2) aq) (pv 1)) (aa (ar ah (pv 2) aq) ag)))))))
 (af (ay (i:=3) br.nd rfl (W6 rfl) (ar cB (pv 3) (aL (aa (ar ah (pv 2) aq) (aa (ar ah (pv 2) aq) (aa (ar ah (pv 2) aq) (aa (ar ah (pv 2) aq) (aa (ar ah (pv 2) aq) ag))))))))
 (af (ay (i:=3) br.nd rfl (W6 rfl) (ar cB (pv 3) (aL (aa (ar ah (pv 2) aq) (aa (ar ah (pv 2) aq) (aa (ar ah (pv 2) aq) (aa (ar ah (pv 2) aq) (aa aq ag))))))))
 (ao (aF (ar cB (pv 3) (aL (aa aq (aa (ar ah (ar ah aq (cg iW (pv 0) dW (cb ak))) aq) (aa (ar ah (pv 2) aq) (aa (ar ah (pv 2) aq) ag)))))))))))))),?_⟩
 refine⟨_,rfl,_,_,rfl,rfl,(bR lr N.an),?_⟩
 have fH:(Wn "rule "++n).length≤(Wn "rule ").length+100:=kE lr N.an
 refine⟨_,rfl,_,rfl,_,_,rfl,rfl,(bR fH lr),_,rfl,_,_,rfl,rfl,(bR fH lr),_,rfl,_,_,rfl,rfl,(bR lr N.bn),_,_,rfl,rfl,(bR (kE lr N.bn) lr),_,rfl,_,_,rfl,rfl,(bR fH lr),_,rfl,_,_,rfl,rfl,(bR fH lr),(by show 6≤Wt;decide),fun p0 Md=>?_⟩
 generalize hG:upd H p0 _=G0
 have y:=congrFun hG p0
 rw [ae] at y
 obtain⟨u0,y0,b0,n0⟩:∃us,G0 p0=some (.lst us)∧cM us∧us.length=6:=⟨_,y.symm,(.cons (.Ld N.a) (.cons (.rule N.a (by decide +kernel)) (.cons (.rule N.a (by decide +kernel)) (.cons (.title N.b N.bs (by decide +kernel)) (.cons (.rule N.a (by decide +kernel)) (.cons (.rule N.a (by decide +kernel)) .nil)))))),rfl⟩
 have s0:aj H G0:=by rw [← hG];exact ai Md _
 clear hG y
 refine⟨_,rfl,_,rfl,_,_,rfl,rfl,(bR fH lr),_,rfl,_,_,rfl,rfl,(bR fH lr),_,rfl,_,_,rfl,rfl,(bR fH lr),_,rfl,_,_,rfl,rfl,(bR fH lr),(by show 4≤Wt;decide),fun p1 I8=>?_⟩
 generalize hG:upd G0 p1 _=G1
 have y:=congrFun hG p1
 rw [ae] at y
 obtain⟨u1,y1,b1,n1⟩:∃us,G1 p1=some (.lst us)∧cM us∧us.length=4:=⟨_,y.symm,(.cons (.rule N.a (by decide +kernel)) (.cons (.rule N.a (by decide +kernel)) (.cons (.rule N.a (by decide +kernel)) (.cons (.rule N.a (by decide +kernel)) .nil)))),rfl⟩
 have s1:aj G0 G1:=by rw [← hG];exact ai I8 _
 clear hG y
 refine⟨p0,p1,_,_,rfl,rfl,s1 _ _ y0,y1,sz (by omega),fun c1 GX=>?_⟩
 generalize hG:upd G1 c1 _=K1
 have z1:K1 c1=some (.lst (u0++u1)):=by rw [← hG];exact ae
 have t1:aj H K1:=aj.trans s0 (aj.trans s1 (by rw [← hG];exact ai GX _))
 have d1:(u0++u1).length=10:=by rw [Wq];omega
 have a1:=cM.app b0 b1
 have f1:H c1=none:=aj.free (aj.trans s0 s1) GX
 clear hG
 generalize u0++u1=v1 at z1 d1 a1 ⊢
 refine⟨_,rfl,_,rfl,_,_,rfl,rfl,(bR fH lr),_,rfl,_,_,rfl,rfl,(bR fH lr),_,rfl,_,_,rfl,rfl,(bR fH lr),_,rfl,_,_,rfl,rfl,(bR (kE fH lr) N.bn),_,rfl,_,_,rfl,rfl,(bR fH lr),(by show 4≤Wt;decide),fun p2 C0=>?_⟩
 generalize hG:upd K1 p2 _=G2
 have y:=congrFun hG p2
 rw [ae] at y
 obtain⟨u2,y2,b2,n2⟩:∃us,G2 p2=some (.lst us)∧cM us∧us.length=4:=⟨_,y.symm,(.cons (.rule N.a (by decide +kernel)) (.cons (.rule N.a (by decide +kernel)) (.cons (.Lh N.a N.al N.b N.bs) (.cons (.rule N.a (by decide +kernel)) .nil)))),rfl⟩
 have s2:aj K1 G2:=by rw [← hG];exact ai C0 _
 clear hG y
 refine⟨c1,p2,_,_,rfl,rfl,s2 _ _ z1,y2,sz (by omega),fun c2 GY=>?_⟩
 generalize hG:upd G2 c2 _=K2
 have z2:K2 c2=some (.lst (v1++u2)):=by rw [← hG];exact ae
 have t2:aj H K2:=aj.trans t1 (aj.trans s2 (by rw [← hG];exact ai GY _))
 have d2:(v1++u2).length=14:=by rw [Wq];omega
 have a2:=cM.app a1 b2
 have f2:H c2=none:=aj.free (aj.trans t1 s2) GY
 clear hG
 generalize v1++u2=v2 at z2 d2 a2 ⊢
 refine⟨_,rfl,_,rfl,_,_,rfl,rfl,(bR fH lr),_,rfl,_,_,rfl,rfl,(bR fH lr),_,rfl,_,_,rfl,rfl,(bR fH lr),_,rfl,_,_,rfl,rfl,(bR fH lr),_,rfl,_,_,rfl,rfl,(bR fH lr),(by show 5≤Wt;decide),fun p3 Me=>?_⟩
 generalize hG:upd K2 p3 _=G3
 have y:=congrFun hG p3
 rw [ae] at y
 obtain⟨u3,y3,b3,n3⟩:∃us,G3 p3=some (.lst us)∧cM us∧us.length=5:=⟨_,y.symm,(.cons (.rule N.a (by decide +kernel)) (.cons (.rule N.a (by decide +kernel)) (.cons (.rule N.a (by decide +kernel)) (.cons (.rule N.a (by decide +kernel)) (.cons (.rule N.a (by decide +kernel)) .nil))))),rfl⟩
 have s3:aj K2 G3:=by rw [← hG];exact ai Me _
 clear hG y
 refine⟨c2,p3,_,_,rfl,rfl,s3 _ _ z2,y3,sz (by omega),fun c3 GZ=>?_⟩
 generalize hG:upd G3 c3 _=K3
 have z3:K3 c3=some (.lst (v2++u3)):=by rw [← hG];exact ae
 have t3:aj H K3:=aj.trans t2 (aj.trans s3 (by rw [← hG];exact ai GZ _))
 have d3:(v2++u3).length=19:=by rw [Wq];omega
 have a3:=cM.app a2 b3
 have f3:H c3=none:=aj.free (aj.trans t2 s3) GZ
 clear hG
 generalize v2++u3=v3 at z3 d3 a3 ⊢
 refine⟨_,rfl,_,rfl,_,_,rfl,rfl,(bR fH lr),_,rfl,_,_,rfl,rfl,(bR fH lr),_,rfl,_,_,rfl,rfl,(bR fH lr),_,rfl,_,_,rfl,rfl,(bR fH lr),(by show 5≤Wt;decide),fun p4 Qa=>?_⟩
 generalize hG:upd K3 p4 _=G4
 have y:=congrFun hG p4
 rw [ae] at y
 obtain⟨u4,y4,b4,n4⟩:∃us,G4 p4=some (.lst us)∧cM us∧us.length=5:=⟨_,y.symm,(.cons (.rule N.a (by decide +kernel)) (.cons (.rule N.a (by decide +kernel)) (.cons (.rule N.a (by decide +kernel)) (.cons (.rule N.a (by decide +kernel)) (.cons (jf (by decide +kernel)) .nil))))),rfl⟩
 have s4:aj K3 G4:=by rw [← hG];exact ai Qa _
 clear hG y
 refine⟨c3,p4,_,_,rfl,rfl,s4 _ _ z3,y4,sz (by omega),fun c4 Mf=>?_⟩
 generalize hG:upd G4 c4 _=K4
 have z4:K4 c4=some (.lst (v3++u4)):=by rw [← hG];exact ae
 have t4:aj H K4:=aj.trans t3 (aj.trans s4 (by rw [← hG];exact ai Mf _))
 have d4:(v3++u4).length=24:=by rw [Wq];omega
 have a4:=cM.app a3 b4
 have f4:H c4=none:=aj.free (aj.trans t3 s4) Mf
 clear hG
 generalize v3++u4=v4 at z4 d4 a4 ⊢
 refine⟨_,rfl,_,rfl,_,rfl,_,rfl,(W5 N.an (by decide)),_,_,rfl,rfl,(bR lr (N.x _ _).2.2),_,_,rfl,rfl,(bR (kE lr (N.x _ _).2.2) lr),_,rfl,_,_,rfl,rfl,(bR fH lr),_,rfl,_,_,rfl,rfl,(bR fH lr),(by show 4≤Wt;decide),fun p5 Vf=>?_⟩
 generalize hG:upd K4 p5 _=G5
 have y:=congrFun hG p5
 rw [ae] at y
 obtain⟨u5,y5,b5,n5⟩:∃us,G5 p5=some (.lst us)∧cM us∧us.length=4:=⟨_,y.symm,(.cons (jf (by decide +kernel)) (.cons (.OV (N.x _ _).1 (N.x _ _).2.1 (by decide +kernel)) (.cons (.rule N.a (by decide +kernel)) (.cons (.rule N.a (by decide +kernel)) .nil)))),rfl⟩
 have s5:aj K4 G5:=by rw [← hG];exact ai Vf _
 clear hG y
 refine⟨c4,p5,_,_,rfl,rfl,s5 _ _ z4,y5,sz (by omega),fun c5 Sm=>?_⟩
 generalize hG:upd G5 c5 _=K5
 have z5:K5 c5=some (.lst (v4++u5)):=by rw [← hG];exact ae
 have t5:aj H K5:=aj.trans t4 (aj.trans s5 (by rw [← hG];exact ai Sm _))
 have d5:(v4++u5).length=28:=by rw [Wq];omega
 have a5:=cM.app a4 b5
 have f5:H c5=none:=aj.free (aj.trans t4 s5) Sm
 clear hG
 generalize v4++u5=v5 at z5 d5 a5 ⊢
 exact q c5 _ _ t5 f5 z5 a5 (by omega)
theorem bL:aC ["_law_n","_law_great","_law_r","_law_rows"] ["_law_n","_law_great"] (av eJ):=⟨rfl,rfl,rfl,by decide +kernel,rfl,by decide +kernel,by decide +kernel⟩
theorem nj (F:du K "_law_bad_rest" "_law_bad_rest" eJ f fd):aU P w K mg base fK 1 f fd ["_law_n","_law_great"] (mY 19):=by
 refine F.ok bL (fun vs H Q E h=>?_) (fun cE A outer s H vs Q E hr h=>?_)
 ·obtain⟨n,g,rfl,_⟩:=h
  rfl
 obtain⟨n,g,rfl,N,q⟩:=h
 refine⟨_,(af (ay (i:=2) bL.nd rfl (W6 rfl) (ar ah (ar ah aq (pv 0)) aq))
 (af (ay (i:=3) bL.nd rfl (W6 rfl) (aL (aa (ar ah (pv 2) aq) (aa (ar ah (pv 2) aq) (aa (ar ah (pv 2) aq) (aa (ar ah (pv 2) aq) (aa (ar ah (pv 2) aq) ag)))))))
 (af (ay (i:=3) bL.nd rfl (W6 rfl) (ar cB (pv 3) (aL (aa (ar ah (pv 2) aq) (aa (ar ah (pv 2) aq) (aa (ar ah (pv 2) aq) (aa (ar ah (pv 2) aq) (aa (ar ah (pv 2) aq) (aa (ar ah (pv 2) aq) ag)))))))))
 (af (ay (i:=3) bL.nd rfl (W6 rfl) (ar cB (pv 3) (aL (aa (ar ah (pv 2) aq) (aa (ar ah (pv 2) aq) (aa (ar ah (pv 2) aq) ag))))))
 (af (ay (i:=3) bL.nd rfl (W6 rfl) (ar cB (pv 3) (aL (aa (ar ah (pv 2) aq) ag))))
 (ao (aF (ar cB (pv 3) (aL (aa (ar ah (ar ah (ar ah (pv 2) aq) (pv 1)) aq) (aa (ar ah (pv 2) aq) (aa (ar ah (pv 2) aq) (aa (ar ah (ar ah (pv 2) aq) (pv 1)) ag))))))))))))),?_⟩
 refine⟨_,rfl,_,_,rfl,rfl,(bR lr N.an),_,_,rfl,rfl,(bR (kE lr N.an) lr),?_⟩
 have fH:((Wn "rule "++n)++Wn ": keep k; ").length≤(Wn "rule ").length+100+(Wn ": keep k; ").length:=kE (kE lr N.an) lr
 refine⟨_,rfl,_,_,rfl,rfl,(bR fH lr),_,rfl,_,_,rfl,rfl,(bR fH lr),_,rfl,_,_,rfl,rfl,(bR fH lr),_,rfl,_,_,rfl,rfl,(bR fH lr),_,rfl,_,_,rfl,rfl,(bR fH lr),(by show 5≤Wt;decide),fun p0 Md=>?_⟩
 generalize hG:upd H p0 _=G0
 have y:=congrFun hG p0
 rw [ae] at y
 obtain⟨u0,y0,b0,n0⟩:∃us,G0 p0=some (.lst us)∧cM us∧us.length=5:=⟨_,y.symm,(.cons (.rest N.a (by decide +kernel)) (.cons (.rest N.a (by decide +kernel)) (.cons (.rest N.a (by decide +kernel)) (.cons (.rest N.a (by decide +kernel)) (.cons (.rest N.a (by decide +kernel)) .nil))))),rfl⟩
 have s0:aj H G0:=by rw [← hG];exact ai Md _
 clear hG y
 refine⟨_,rfl,_,rfl,_,_,rfl,rfl,(bR fH lr),_,rfl,_,_,rfl,rfl,(bR fH lr),_,rfl,_,_,rfl,rfl,(bR fH lr),_,rfl,_,_,rfl,rfl,(bR fH lr),_,rfl,_,_,rfl,rfl,(bR fH lr),_,rfl,_,_,rfl,rfl,(bR fH lr),(by show 6≤Wt;decide),fun p1 I8=>?_⟩
 generalize hG:upd G0 p1 _=G1
 have y:=congrFun hG p1
 rw [ae] at y
 obtain⟨u1,y1,b1,n1⟩:∃us,G1 p1=some (.lst us)∧cM us∧us.length=6:=⟨_,y.symm,(.cons (.rest N.a (by decide +kernel)) (.cons (.rest N.a (by decide +kernel)) (.cons (.rest N.a (by decide +kernel)) (.cons (.rest N.a (by decide +kernel)) (.cons (.rest N.a (by decide +kernel)) (.cons (.rest N.a (by decide +kernel)) .nil)))))),rfl⟩
 have s1:aj G0 G1:=by rw [← hG];exact ai I8 _
 clear hG y
 refine⟨p0,p1,_,_,rfl,rfl,s1 _ _ y0,y1,sz (by omega),fun c1 GX=>?_⟩
 generalize hG:upd G1 c1 _=K1
 have z1:K1 c1=some (.lst (u0++u1)):=by rw [← hG];exact ae
 have t1:aj H K1:=aj.trans s0 (aj.trans s1 (by rw [← hG];exact ai GX _))
 have d1:(u0++u1).length=11:=by rw [Wq];omega
 have a1:=cM.app b0 b1
 have f1:H c1=none:=aj.free (aj.trans s0 s1) GX
 clear hG
 generalize u0++u1=v1 at z1 d1 a1 ⊢
 refine⟨_,rfl,_,rfl,_,_,rfl,rfl,(bR fH lr),_,rfl,_,_,rfl,rfl,(bR fH lr),_,rfl,_,_,rfl,rfl,(bR fH lr),(by show 3≤Wt;decide),fun p2 C0=>?_⟩
 generalize hG:upd K1 p2 _=G2
 have y:=congrFun hG p2
 rw [ae] at y
 obtain⟨u2,y2,b2,n2⟩:∃us,G2 p2=some (.lst us)∧cM us∧us.length=3:=⟨_,y.symm,(.cons (.rest N.a (by decide +kernel)) (.cons (.rest N.a (by decide +kernel)) (.cons (.rest N.a (by decide +kernel)) .nil))),rfl⟩
 have s2:aj K1 G2:=by rw [← hG];exact ai C0 _
 clear hG y
 refine⟨c1,p2,_,_,rfl,rfl,s2 _ _ z1,y2,sz (by omega),fun c2 GY=>?_⟩
 generalize hG:upd G2 c2 _=K2
 have z2:K2 c2=some (.lst (v1++u2)):=by rw [← hG];exact ae
 have t2:aj H K2:=aj.trans t1 (aj.trans s2 (by rw [← hG];exact ai GY _))
 have d2:(v1++u2).length=14:=by rw [Wq];omega
 have a2:=cM.app a1 b2
 have f2:H c2=none:=aj.free (aj.trans t1 s2) GY
 clear hG
 generalize v1++u2=v2 at z2 d2 a2 ⊢
 refine⟨_,rfl,_,rfl,_,_,rfl,rfl,(bR fH lr),(by show 1≤Wt;decide),fun p3 Me=>?_⟩
 generalize hG:upd K2 p3 _=G3
 have y:=congrFun hG p3
 rw [ae] at y
 obtain⟨u3,y3,b3,n3⟩:∃us,G3 p3=some (.lst us)∧cM us∧us.length=1:=⟨_,y.symm,(.cons (.rest N.a (by decide +kernel)) .nil),rfl⟩
 have s3:aj K2 G3:=by rw [← hG];exact ai Me _
 clear hG y
 refine⟨c2,p3,_,_,rfl,rfl,s3 _ _ z2,y3,sz (by omega),fun c3 GZ=>?_⟩
 generalize hG:upd G3 c3 _=K3
 have z3:K3 c3=some (.lst (v2++u3)):=by rw [← hG];exact ae
 have t3:aj H K3:=aj.trans t2 (aj.trans s3 (by rw [← hG];exact ai GZ _))
 have d3:(v2++u3).length=15:=by rw [Wq];omega
 have a3:=cM.app a2 b3
 have f3:H c3=none:=aj.free (aj.trans t2 s3) GZ
 clear hG
 generalize v2++u3=v3 at z3 d3 a3 ⊢
 refine⟨_,rfl,_,rfl,_,_,rfl,rfl,(bR fH lr),_,rfl,_,_,rfl,rfl,(bR (kE fH lr) N.bn),_,_,rfl,rfl,(bR (kE (kE fH lr) N.bn) lr),_,rfl,_,_,rfl,rfl,(bR fH lr),_,rfl,_,_,rfl,rfl,(bR fH lr),_,rfl,_,_,rfl,rfl,(bR fH lr),_,rfl,_,_,rfl,rfl,(bR (kE fH lr) N.bn),(by show 4≤Wt;decide),fun p4 Qa=>?_⟩
 generalize hG:upd K3 p4 _=G4
 have y:=congrFun hG p4
 rw [ae] at y
 obtain⟨u4,y4,b4,n4⟩:∃us,G4 p4=some (.lst us)∧cM us∧us.length=4:=⟨_,y.symm,(.cons (.Li N.a N.al N.b N.bl) (.cons (.rest N.a (by decide +kernel)) (.cons (.rest N.a (by decide +kernel)) (.cons (.OW N.a N.al N.b) .nil)))),rfl⟩
 have s4:aj K3 G4:=by rw [← hG];exact ai Qa _
 clear hG y
 refine⟨c3,p4,_,_,rfl,rfl,s4 _ _ z3,y4,sz (by omega),fun c4 Mf=>?_⟩
 generalize hG:upd G4 c4 _=K4
 have z4:K4 c4=some (.lst (v3++u4)):=by rw [← hG];exact ae
 have t4:aj H K4:=aj.trans t3 (aj.trans s4 (by rw [← hG];exact ai Mf _))
 have d4:(v3++u4).length=19:=by rw [Wq];omega
 have a4:=cM.app a3 b4
 have f4:H c4=none:=aj.free (aj.trans t3 s4) Mf
 clear hG
 generalize v3++u4=v4 at z4 d4 a4 ⊢
 exact q c4 _ _ t4 f4 z4 a4 (by omega)
end
end iR
namespace iR
open PySem L2 bB Bk
set_option maxHeartbeats 4000000
section
variable {P:WM} {w:Xj} {K:Wo} {mg:Str→Option Wr} {base:Heap} {f:WA} {fd:Xk} {c:Cl} {C:WA}
theorem nZ:aC ["_law_n","_law_great","_law_number","_law_rows"] ["_law_n","_law_great","_law_number"] (av kW):=⟨rfl,rfl,rfl,by decide +kernel,rfl,by decide +kernel,by decide +kernel⟩
theorem xM (F:du K "_law_bad" "_law_bad" kW f fd) (eM:gD P w K mg base "_law_bad_kind" 1 ["_law_n","_law_great"] (mY 18)) (dS:gD P w K mg base "_law_bad_heads" 1 ["_law_n","_law_great"] (mY 28)) (eQ:gD P w K mg base "_law_bad_rest" 1 ["_law_n","_law_great"] (mY 19)) (bo:mg "len"=none):aU P w K mg base fK 2 f fd ["_law_n","_law_great","_law_number"] AG:=by
 refine F.ok nZ (fun vs H Q E h=>?_) (fun cE A outer s H vs Q E hr h=>?_)
 ·obtain⟨n,g,i,rfl,_⟩:=h
  rfl
 obtain⟨n,g,i,rfl,N,q⟩:=h
 refine⟨_,(af (ay (i:=3) nZ.nd rfl (W6 rfl) (ar cB (ar cB (ax eM (hr.mono (by decide)) rfl (aa (pv 0) (aa (pv 1) ag))) (ax dS (hr.mono (by decide)) rfl (aa (pv 0) (aa (pv 1) ag)))) (ax eQ (hr.mono (by decide)) rfl (aa (pv 0) (aa (pv 1) ag)))))
 (ao (aF (aA az (pv 3) (ar bQ (pv 2) (aJ aD rfl bo W0 (aa (pv 3) ag))) (fun _ _=>rfl))))),?_⟩
 refine⟨_,rfl,_,rfl,n,g,rfl,N,fun l1 u1 H1 s1 f1 h1 b1 n1=>⟨_,rfl,_,rfl,n,g,rfl,N,fun l2 u2 H2 s2 f2 h2 b2 n2=>⟨l1,l2,_,_,rfl,rfl,s2 _ _ h1,h2,sz (by omega),fun l3 BD=>?_⟩⟩⟩
 have s3:=ai BD (.lst (u1++u2))
 refine⟨_,rfl,_,rfl,n,g,rfl,N,fun l4 u4 H4 s4 f4 h4 b4 n4=>⟨l3,l4,_,_,rfl,rfl,s4 _ _ ae,h4,sz (by rw [Wq];omega),fun l5 LJ=>?_⟩⟩
 have s5:=ai LJ (.lst ((u1++u2)++u4))
 have y5:=ae (H:=H4) (a:=l5) (o:=.lst ((u1++u2)++u4))
 have sA:=aj.trans s1 (aj.trans s2 (aj.trans s3 (aj.trans s4 s5)))
 have bA:=(b1.app b2).app b4
 have nA:((u1++u2)++u4).length=65:=by rw [Wq,Wq];omega
 generalize (u1++u2)++u4=us at s5 y5 bA nA sA ⊢
 generalize upd H4 l5 (.lst us)=H5 at s5 y5 sA ⊢
 refine⟨_,rfl,_,rfl,_,rfl,l5,_,rfl,.inl (aI.of y5),?_⟩
 have hm:=mid (a:=i) (b:=65) (by decide)
 obtain⟨m,em⟩:=Yj hm.1
 have Mg:m<us.length:=by omega
 obtain⟨x,ex,hb⟩:=bA.mem (WT Mg)
 refine⟨_,_,rfl,rfl,(by show(0:Int)<((us.length:Nat):Int);rw [nA];decide),l5,us,_,us[m],rfl,rfl,aI.of y5,?_,?_⟩
 ·rw [nA,show((65:Nat):Int)=65 from rfl,em]
  exact bT (Ge9 Mg)
 ·rw [ex]
  exact q x _ sA hb
theorem fc:aC ["_law_titles_here","_law_great","_law_way","_law_told","_law_number","_law_sort","_law_step","_law_at"] ["_law_titles_here","_law_great","_law_way","_law_told","_law_number"] (av jr):=⟨rfl,rfl,rfl,by decide +kernel,rfl,by decide +kernel,by decide +kernel⟩
theorem ve (F:du K "_law_line" "_law_line" jr f fd) (lj:gD P w K mg base "_law_bad" 2 ["_law_n","_law_great","_law_number"] AG) (bo:mg "len"=none) (Mh:mg "str"=none):aU P w K mg base fK 3 f fd ["_law_titles_here","_law_great","_law_way","_law_told","_law_number"] xB:=by
 refine F.ok fc (fun vs H Q E h=>?_) (fun cE A outer s H vs Q E hr h=>?_)
 ·obtain⟨lt,fh,l0,l1,TS,t0,t1,g,w,nm,rfl,_⟩:=h
  rfl
 obtain⟨lt,fh,l0,l1,TS,t0,t1,g,way,nm,rfl,Qb,T,G,DL,yh,JI,Sn,So,Mi,Mj,h0,h1,TL,q⟩:=h
 refine⟨_,(af (ay (i:=5) fc.nd rfl (W6 rfl) (ar bQ (pv 4) ak))
 (af (ay (i:=6) fc.nd rfl (W6 rfl) (ar eW (pv 4) ak))
 (af (aX (PW.pt (gR (aB dm (pv 5) ak (aK _)) (gR (aB wo (pv 2) ak (aK _)) (gQ (aB wo (ar de (aJ aD rfl bo W0 (aa (aA az (pv 3) ak (fun _ _=>rfl)) ag)) (aJ aD rfl bo W0 (aa (aA az (pv 3) ak (fun _ _=>rfl)) ag))) ak (aK _))))))
 (af (ay (i:=7) fc.nd rfl (W6 rfl) (ar bQ (pv 6) (ar de (aJ aD rfl bo W0 (aa (aA az (pv 3) ak (fun _ _=>rfl)) ag)) (aJ aD rfl bo W0 (aa (aA az (pv 3) ak (fun _ _=>rfl)) ag)))))
 (af (aX (aB jQ (pv 7) (aJ aD rfl bo W0 (aa (aA az (pv 3) ak (fun _ _=>rfl)) ag)) (aK _))
 (ao (aF (aL (aa (ar ah (ar ah aq (aA az (aA az (pv 3) ak (fun _ _=>rfl)) (pv 7) (fun _ _=>rfl))) aq) (aa ak ag)))))
 aE)
 (ao (aF (aL (aa (ar ah (ar ah aq (aA az (aA az (pv 3) ak (fun _ _=>rfl)) (ar tZ (pv 7) (aJ aD rfl bo W0 (aa (aA az (pv 3) ak (fun _ _=>rfl)) ag))) (fun _ _=>rfl))) aq) (aa ak ag)))))))
 aE)
 (af (aX (PW.pt (gR (aB dm (pv 5) ak (aK _)) (gQ (aB dm (ar bQ (pv 2) ak) ak (aK _)))))
 (ao (aF (aL (aa (ax lj (hr.mono (by decide)) rfl (aa (aA az (pv 0) (ar bQ (pv 6) ak) (fun _ _=>rfl)) (aa (pv 1) (aa (ar eW (pv 6) ak) ag)))) (aa ak ag)))))
 aE)
 (af (aX (PW.pt (gR (aB jQ (pv 5) ak (aK _)) (gQ (aB jQ (aJ aD rfl bo W0 (aa (aA az (pv 3) ak (fun _ _=>rfl)) ag)) ak (aK _)))))
 (af (bu (dg WZ W4 W9 bz (aA az (pv 3) ak (fun _ _=>rfl)) (aa (aA az (pv 0) (aJ aD rfl bo W0 (aa (aA az (pv 3) ak (fun _ _=>rfl)) ag)) (fun _ _=>rfl)) ag)))
 (ao (aF (aL (aa (ar ah (ar ah (ar ah (aA az (aL (aa aq (aa aq ag))) (ar bQ (pv 6) ak) (fun _ _=>rfl)) (aA az (aA az (pv 3) ak (fun _ _=>rfl)) (ar tZ (aJ aD rfl bo W0 (aa (aA az (pv 3) ak (fun _ _=>rfl)) ag)) ak) (fun _ _=>rfl))) aq) (gw t7 rfl Mh PyProof.Rows.Boot.«str» (aa (ar bQ (ar eW (pv 6) ak) ak) ag))) (aa ak ag))))))
 aE)
 (af (aX (PW.pt (gR (aB jQ ak (pv 5) (aK _)) (gR (aB jQ (pv 5) ak (aK _)) (gQ (aB jQ (aJ aD rfl bo W0 (aa (aA az (pv 3) ak (fun _ _=>rfl)) ag)) ak (aK _))))))
 (af (bu (dg WZ W4 W9 bz (aA az (pv 3) ak (fun _ _=>rfl)) (aa (aA az (pv 0) (ar tZ ak (aJ aD rfl bo W0 (aa (aA az (pv 3) ak (fun _ _=>rfl)) ag))) (fun _ _=>rfl)) ag)))
 (ao (aF (aL (aa (ar ah (ar ah aq (aA az (aA az (pv 3) ak (fun _ _=>rfl)) (ar tZ (aJ aD rfl bo W0 (aa (aA az (pv 3) ak (fun _ _=>rfl)) ag)) ak) (fun _ _=>rfl))) aq) (aa ak ag))))))
 aE)
 (ao (aF (aL (aa (cg iW aq dW (cb (ar bQ (pv 6) ak))) (aa ak ag))))))))))),?_⟩
 have Vg:=mid (a:=nm) (b:=8) (by decide)
 refine⟨_,rfl,_,_,rfl,rfl,(by show(0:Int)<8;decide),⟨_,rfl,_,_,rfl,rfl,⟨by decide,by decide⟩,?_⟩⟩
 refine cq ?_
 dsimp only
 generalize nm % 8=sort at Vg ⊢
 have vZ:0≤nm / 8:=Int.ediv_nonneg DL (by decide)
 generalize nm / 8=step at vZ ⊢
 have JB:∀t∈t0,aH t=true:=fun t ht=>T.sm t (Xz (by rw [← TL.a];exact ht))
 have Ot:∀t∈t1,aH t=true:=fun t ht=>T.sm t (List.mem_reverse.mp (Xz (by rw [← TL.b];exact ht)))
 refine lR (Good:=fun σ' H'=>H'=H∧σ'=[some (.ref lt),some (.str g),some (.int way),some (.ref fh),some (.int nm),some (.int sort),some (.int step),none]) (fun fin=>?_) (fun σ' H' hg=>?_)
 ·refine⟨_,rfl,rfl,_,rfl,?_⟩
  by_cases h7:sort=7
  case neg =>
   rw [decide_eq_false fun z=>h7 (V.int.inj z)]
   exact a7 (a7 (fin _ _ ⟨rfl,rfl⟩))
  rw [decide_eq_true (by rw [h7])]
  refine bF ⟨_,rfl,_,_,rfl,rfl,_,rfl,?_⟩
  by_cases hw:1<way
  case neg =>
   rw [decide_eq_false hw]
   exact a7 (a7 (fin _ _ ⟨rfl,rfl⟩))
  rw [decide_eq_true hw]
  refine bF ⟨_,rfl,fh,_,0,_,rfl,rfl,aI.of yh,rfl,l0,_,rfl,.inl (aI.of h0),_,rfl,fh,_,1,_,rfl,rfl,aI.of yh,rfl,l1,_,rfl,.inl (aI.of h1),_,_,rfl,rfl,_,_,rfl,rfl,_,rfl,?_⟩
  rw [Lm9,Lm9]
  by_cases hp:(0:Int)<(t0.length:Int)+(t1.length:Int)
  case neg =>
   rw [decide_eq_false hp]
   exact a7 (fin _ _ ⟨rfl,rfl⟩)
  rw [decide_eq_true hp]
  refine bF ?_
  refine⟨_,rfl,_,rfl,fh,_,0,_,rfl,rfl,aI.of yh,rfl,l0,_,rfl,.inl (aI.of h0),_,rfl,fh,_,1,_,rfl,rfl,aI.of yh,rfl,l1,_,rfl,.inl (aI.of h1),_,_,rfl,rfl,_,_,rfl,rfl,(by rw [Lm9,Lm9];exact hp),?_⟩
  refine cq ?_
  dsimp only
  rw [Lm9,Lm9]
  have hm:=mid (a:=step) hp
  obtain⟨m,em⟩:=Yj hm.1
  rw [em] at hm ⊢
  refine⟨_,rfl,_,rfl,fh,_,0,_,rfl,rfl,aI.of yh,rfl,l0,_,rfl,.inl (aI.of h0),_,_,rfl,rfl,_,rfl,?_⟩
  rw [Lm9]
  by_cases pA:(m:Int)<(t0.length:Int)
  ·rw [decide_eq_true pA]
   have hmt:m<t0.length:=by omega
   have ht:=WT hmt
   have hs:=JB _ ht
   have hsz:=(cZ hs).2
   obtain⟨k1,k2,k3⟩:=xC (a:=Wn "lasting ") (b:=Wn " 2") (w:=aP) (k:=2) hs (by decide +kernel) (.inr rfl) (by decide +kernel) (by decide)
   refine bF ⟨_,rfl,fh,_,0,_,rfl,rfl,aI.of yh,rfl,_,rfl,l0,_,_,tx t0[m],rfl,rfl,aI.of h0,bT (by rw [WX,Ge9 hmt];rfl),_,_,rfl,rfl,bR lr (m:=12) (by rw [aV];exact hsz),_,_,rfl,rfl,bR (kE lr (m:=12) (by rw [aV];exact hsz)) lr,(by show 2≤Wt;decide),fun l hl=>?_⟩
   exact q l _ 2 t0 t1 _ (fun b o _ _ e=>ai hl _ _ _ e) hl ae (ai hl _ _ _ h0) (ai hl _ _ _ h1) (.tk k2 k3 ht) TL k1
  ·rw [decide_eq_false pA]
   have hmt:m - t0.length<t1.length:=by omega
   have ht:=WT hmt
   have hs:=Ot _ ht
   have hsz:=(cZ hs).2
   obtain⟨k1,k2,k3⟩:=xD hs
   refine a7 ⟨_,rfl,fh,_,1,_,rfl,rfl,aI.of yh,rfl,_,rfl,_,rfl,fh,_,0,_,rfl,rfl,aI.of yh,rfl,l0,_,rfl,.inl (aI.of h0),_,_,rfl,rfl,l1,_,_,tx t1[m - t0.length],rfl,rfl,aI.of h1,?_,_,_,rfl,rfl,bR lr (m:=12) (by rw [aV];exact hsz),_,_,rfl,rfl,bR (kE lr (m:=12) (by rw [aV];exact hsz)) lr,(by show 2≤Wt;decide),fun l hl=>?_⟩
   ·rw [Lm9,show(m:Int) - (t0.length:Int)=((m - t0.length:Nat):Int) by omega]
    exact bT (by rw [WX,Ge9 hmt];rfl)
   ·exact q l _ 2 t0 t1 _ (fun b o _ _ e=>ai hl _ _ _ e) hl ae (ai hl _ _ _ h0) (ai hl _ _ _ h1) (.tr k2 k3 ht) TL k1
 obtain⟨rfl,rfl⟩:=hg
 refine lR (Good:=fun σ' jM=>jM=H'∧σ'=[some (.ref lt),some (.str g),some (.int way),some (.ref fh),some (.int nm),some (.int sort),some (.int step),none]) (fun fin=>?_) (fun σ' jM hg=>?_)
 ·refine⟨_,rfl,rfl,_,rfl,?_⟩
  by_cases h6:sort=6
  case neg =>
   rw [decide_eq_false fun z=>h6 (V.int.inj z)]
   exact a7 (a7 (fin _ _ ⟨rfl,rfl⟩))
  rw [decide_eq_true (by rw [h6])]
  refine bF ⟨_,rfl,_,_,rfl,rfl,(by show(0:Int)<2;decide),rfl,_,rfl,?_⟩
  by_cases hw:way % 2=1
  case neg =>
   rw [decide_eq_false fun z=>hw (V.int.inj z)]
   exact a7 (fin _ _ ⟨rfl,rfl⟩)
  rw [decide_eq_true (show V.int (way % 2)=V.int 1 by rw [hw])]
  refine bF ?_
  have hm:=mid (a:=step) (b:=8) (by decide)
  obtain⟨m,em⟩:=Yj hm.1
  have Ml:m<TS.length:=by rw [T.len];omega
  have hs:=T.sm _ (WT Ml)
  have NN:NG (S TS[m]) g:=⟨(cZ hs).1,(cZ hs).2,G.b,G.bl,G.bs⟩
  refine⟨_,rfl,_,rfl,_,_,rfl,rfl,(by show(0:Int)<8;decide),lt,_,_,tx TS[m],rfl,rfl,aI.of Qb,(by rw [em];exact bT (by rw [WX,Ge9 Ml];rfl)),_,rfl,_,rfl,_,_,rfl,rfl,⟨by decide,by decide⟩,_,g,_,rfl,NN,fun x H2 s2 hb=>⟨(by show 2≤Wt;decide),fun l hl=>?_⟩⟩
  exact q l _ 1 t0 t1 _ (fun b o _ _ e=>ai hl _ _ _ (s2 _ _ e)) (s2.free hl) ae (ai hl _ _ _ (s2 _ _ h0)) (ai hl _ _ _ (s2 _ _ h1)) (.bad hb.told hb.none) TL hb.ln
 obtain⟨rfl,rfl⟩:=hg
 refine lR (Good:=fun σ' H3=>H3=jM∧σ'=[some (.ref lt),some (.str g),some (.int way),some (.ref fh),some (.int nm),some (.int sort),some (.int step),none]) (fun fin=>?_) (fun σ' H3 hg=>?_)
 ·refine⟨_,rfl,_,_,rfl,rfl,_,rfl,?_⟩
  by_cases h3:sort<3
  case neg =>
   rw [decide_eq_false h3]
   exact a7 (a7 (fin _ _ ⟨rfl,rfl⟩))
  rw [decide_eq_true h3]
  refine bF ⟨_,rfl,fh,_,0,_,rfl,rfl,aI.of yh,rfl,l0,_,rfl,.inl (aI.of h0),_,_,rfl,rfl,_,rfl,?_⟩
  rw [Lm9]
  by_cases h5:(t0.length:Int)<5
  case neg =>
   rw [decide_eq_false h5]
   exact a7 (fin _ _ ⟨rfl,rfl⟩)
  rw [decide_eq_true h5]
  obtain⟨t,et,JJ,ui,hs⟩:=TL.k T (by omega)
  have hsz:=(cZ hs).2
  refine bF ?_
  refine⟨_,rfl,fh,_,0,_,rfl,rfl,aI.of yh,rfl,.inl ⟨rfl,_,aI.of h0⟩,_,rfl,_,rfl,fh,_,0,_,rfl,rfl,aI.of yh,rfl,l0,_,rfl,.inl (aI.of h0),lt,_,_,tx t,rfl,rfl,aI.of Qb,(by rw [Lm9];exact bT (by rw [WX,et];rfl)),l0,_,_,rfl,rfl,h0,lu (by rw [Lm9];omega),?_⟩
  have e0:(t0.map tx)++[tx t]=(t0++[t]).map tx:=by rw [WQ];rfl
  rw [e0]
  have g0:=ae (H:=jM) (a:=l0) (o:=.lst ((t0++[t]).map tx))
  have gk:∀b o,b≠l0→jM b=some o→upd jM l0 (.lst ((t0++[t]).map tx)) b=some o:=fun b o hb e=>by rw [aw hb];exact e
  have gn:∀b,upd jM l0 (.lst ((t0++[t]).map tx)) b=none→jM b=none:=fun b e=>by
   by_cases hb:b=l0
   ·rw [hb,ae] at e;cases e
   ·rw [aw hb] at e;exact e
  generalize upd jM l0 (.lst ((t0++[t]).map tx))=G1 at g0 gk gn ⊢
  refine⟨(by show 2≤Wt;decide),fun lp Vh=>?_⟩
  have s2:=ai Vh (.lst [V.str (Wn "passing "),V.str (Wn "lasting ")])
  obtain⟨a,wd,ea,ha,hw,JA⟩:=Bw step
  have Vi:=mid (a:=step / 2) (b:=5) (by decide)
  obtain⟨k,ek⟩:=Yj Vi.1
  have Sq:k≤4:=by omega
  obtain⟨k1,k2,k3⟩:=Bv (a:=a) (b:=Wn " ") (b2:=S [48+k]) (k:=k) hs ha hw (by rw [show(Wn " ").cps.toList=[32] by decide +kernel];rfl) Sq
  have D6:=s2 _ _ (gk _ _ Mi yh)
  have Sr:=s2 _ _ g0
  refine⟨_,rfl,_,_,rfl,rfl,(by show(0:Int)<2;decide),lp,_,_,_,rfl,rfl,aI.of ae,ea,_,rfl,fh,_,0,_,rfl,rfl,aI.of D6,rfl,_,rfl,fh,_,0,_,rfl,rfl,aI.of D6,rfl,l0,_,rfl,.inl (aI.of Sr),_,_,rfl,rfl,l0,_,_,tx t,rfl,rfl,aI.of Sr,?_,?_⟩
  ·rw [Lm9,Wq,WL,show((t0.length+1:Nat):Int) - 1=((t0.length:Nat):Int) by omega]
   exact bT (by rw [WQ,Yv (by rw [Lm9];omega),Lm9,Nat.sub_self];rfl)
  refine⟨_,_,rfl,rfl,bR JA (m:=12) (by rw [aV];exact hsz),_,_,rfl,rfl,bR (kE JA (m:=12) (by rw [aV];exact hsz)) lr,_,rfl,_,_,rfl,rfl,⟨by decide,by decide⟩,_,_,rfl,rfl,(by show(0:Int)<5;decide),_,rfl,?_,?_⟩
  ·show(step / 2 % 5).natAbs.log2<1920
   rw [ek]
   rcases(by omega:k=0∨k=1∨k=2∨k=3∨k=4) with e|e|e|e|e <;> subst e <;> decide
  dsimp only
  rw [ek,show(toString (k:Int):Str)=S [48+k] from Fl Sq]
  refine⟨_,_,rfl,rfl,bR (kE (kE JA (m:=12) (by rw [aV];exact hsz)) lr) (m:=1) (by rw [aV];exact Wz 1),(by show 2≤Wt;decide),fun l hl=>?_⟩
  have s3:=aj.trans s2 (ai hl (.lst [.str (((a++S t)++Wn " ")++S [48+k]),.int 0]))
  exact q l _ 0 (t0++[t]) t1 _ (fun b o b0 _ e=>s3 _ _ (gk _ _ b0 e)) (gn _ (s2.free hl)) ae (s3 _ _ g0) (s3 _ _ (gk _ _ (Xl JI) h1)) (.kind k2 k3 ui) JJ k1
 obtain⟨rfl,rfl⟩:=hg
 refine lR (Good:=fun σ' H4=>H4=H3∧σ'=[some (.ref lt),some (.str g),some (.int way),some (.ref fh),some (.int nm),some (.int sort),some (.int step),none]) (fun fin=>?_) (fun σ' H4 hg=>?_)
 ·refine⟨_,rfl,_,_,rfl,rfl,_,rfl,?_⟩
  by_cases h2:2<sort
  case neg =>
   rw [decide_eq_false h2]
   exact a7 (a7 (fin _ _ ⟨rfl,rfl⟩))
  rw [decide_eq_true h2]
  refine bF ⟨_,rfl,_,_,rfl,rfl,_,rfl,?_⟩
  by_cases h6:sort<6
  case neg =>
   rw [decide_eq_false h6]
   exact a7 (a7 (fin _ _ ⟨rfl,rfl⟩))
  rw [decide_eq_true h6]
  refine bF ⟨_,rfl,fh,_,1,_,rfl,rfl,aI.of yh,rfl,l1,_,rfl,.inl (aI.of h1),_,_,rfl,rfl,_,rfl,?_⟩
  rw [Lm9]
  by_cases h5:(t1.length:Int)<6
  case neg =>
   rw [decide_eq_false h5]
   exact a7 (fin _ _ ⟨rfl,rfl⟩)
  rw [decide_eq_true h5]
  obtain⟨t,et,JJ,ui,hs⟩:=TL.r T (by omega)
  have hsz:=(cZ hs).2
  obtain⟨k1,k2,k3⟩:=xD hs
  refine bF ?_
  refine⟨_,rfl,fh,_,1,_,rfl,rfl,aI.of yh,rfl,.inl ⟨rfl,_,aI.of h1⟩,_,rfl,_,rfl,fh,_,1,_,rfl,rfl,aI.of yh,rfl,l1,_,rfl,.inl (aI.of h1),_,_,rfl,rfl,lt,_,_,tx t,rfl,rfl,aI.of Qb,(by rw [Lm9,show(7:Int) - (t1.length:Int)=((7 - t1.length:Nat):Int) by omega];exact bT (by rw [WX,et];rfl)),l1,_,_,rfl,rfl,h1,lu (by rw [Lm9];omega),?_⟩
  have e0:(t1.map tx)++[tx t]=(t1++[t]).map tx:=by rw [WQ];rfl
  rw [e0]
  have g1:=ae (H:=H3) (a:=l1) (o:=.lst ((t1++[t]).map tx))
  have gk:∀b o,b≠l1→H3 b=some o→upd H3 l1 (.lst ((t1++[t]).map tx)) b=some o:=fun b o hb e=>by rw [aw hb];exact e
  have gn:∀b,upd H3 l1 (.lst ((t1++[t]).map tx)) b=none→H3 b=none:=fun b e=>by
   by_cases hb:b=l1
   ·rw [hb,ae] at e;cases e
   ·rw [aw hb] at e;exact e
  generalize upd H3 l1 (.lst ((t1++[t]).map tx))=G1 at g1 gk gn ⊢
  have D6:=gk _ _ Mj yh
  refine⟨_,rfl,fh,_,1,_,rfl,rfl,aI.of D6,rfl,_,rfl,fh,_,1,_,rfl,rfl,aI.of D6,rfl,l1,_,rfl,.inl (aI.of g1),_,_,rfl,rfl,l1,_,_,tx t,rfl,rfl,aI.of g1,?_,?_⟩
  ·rw [Lm9,Wq,WL,show((t1.length+1:Nat):Int) - 1=((t1.length:Nat):Int) by omega]
   exact bT (by rw [WQ,Yv (by rw [Lm9];omega),Lm9,Nat.sub_self];rfl)
  refine⟨_,_,rfl,rfl,bR lr (m:=12) (by rw [aV];exact hsz),_,_,rfl,rfl,bR (kE lr (m:=12) (by rw [aV];exact hsz)) lr,(by show 2≤Wt;decide),fun l hl=>?_⟩
  have s3:=ai hl (.lst [.str ((Wn "rule "++S t)++Wn ": keep k"),.int 0])
  exact q l _ 0 t0 (t1++[t]) _ (fun b o _ b1 e=>s3 _ _ (gk _ _ b1 e)) (gn _ hl) ae (s3 _ _ (gk _ _ JI h0)) (s3 _ _ g1) (.rule k2 k3 ui) JJ k1
 obtain⟨rfl,rfl⟩:=hg
 have Ss:=mid (a:=step) (b:=4) (by decide)
 obtain⟨k1,k2⟩:=blankLine Ss.1 Ss.2
 refine⟨_,rfl,_,_,rfl,rfl,(by show(0:Int)<4;decide),_,rfl,_,rfl,(by decide +kernel),(by show 2≤Wt;decide),fun l hl=>?_⟩
 exact q l _ 0 t0 t1 _ (fun b o _ _ e=>ai hl _ _ _ e) hl ae (ai hl _ _ _ h0) (ai hl _ _ _ h1) (.no k2) TL k1
end
end iR
namespace iR
open PySem L2 bB Bk
set_option maxHeartbeats 4000000
section
variable {P:WM} {w:Xj} {K:Wo} {mg:Str→Option Wr} {base:Heap} {f:WA} {fd:Xk} {c:Cl} {CP:WA} {Cs:Nat→WA}
theorem bY:aC ["_law_text","_law_found","_law_flags","e"] ["_law_text"] (av il):=⟨rfl,rfl,rfl,by decide +kernel,rfl,by decide +kernel,by decide +kernel⟩
theorem rQ (F:du K "_law_asked" "_law_asked" il f fd) (jD:g6 P w K mg base "read_book" 9 ["text"] (AA K c (Cs 1) (Cs 2))) (cV:mg "isinstance"=none) (vf:mg "ValueError"=none) (xN:mg "PoolError"=some (.ref CP)) (aT:mg "NoLine"=some (.ref (Cs 1))) (pe:mg "Twice"=some (.ref (Cs 2))) (D7:mg "NoKind"=some (.ref (Cs 3))) (BJ:mg "BadArgs"=some (.ref (Cs 4))) (D8:mg "NoName"=some (.ref (Cs 5)))
  (xP:∀n,1≤n→n≤2→YV K (.ref (Cs n)) (.ref CP)=some true) (Z:∀n,1≤n→n≤2→PySem.W.ExcKit K (Cs n)) (kI:∀n m,1≤n→n≤2→1≤m→m≤5→XI K (.ref (Cs n)) (.ref (Cs m))=some (n == m)) (kV:∀n,1≤n→n≤2→XI K (.ref (Cs n)) (.type "ValueError")=some true) :
  aU P w K mg base fK 10 f fd ["_law_text"] (tE K c):=by
 refine F.ok bY (fun vs H Q E h=>?_) (fun cE A outer s H vs Q E hr h=>?_)
 ·obtain⟨ls,rfl,_⟩:=h
  rfl
 obtain⟨ls,rfl,hB,good,q⟩:=h
 refine⟨_,(af (ay (i:=1) bY.nd rfl (W6 rfl) Hg)
 (af (ay (i:=2) bY.nd rfl (W6 rfl) (aL ag))
 (af (HV (fun pn R=>(ao (ay (i:=1) bY.nd rfl (W6 rfl) (p8 jD (hr.mono (by decide)) rfl (aa (pv 0) ag))))) (KW (i:=3) bY.nd rfl rfl rfl xN (fun a oe cls hc hnc=>(af (ay (i:=2) bY.nd rfl (W6 rfl) (aL (aa (aJ (id (α:=dZ _ _ (yN K a cls)) (gG (oe:=oe) (WD _ (Wy.mpr rfl)) hc hnc)) rfl cV Xp (aa (pv 3) (aa (bO (v:=.ref _) rfl aT rfl) ag))) (aa (aJ (id (α:=dZ _ _ (yN K a cls)) (gG (oe:=oe) (WD _ (Wy.mpr rfl)) hc hnc)) rfl cV Xp (aa (pv 3) (aa (bO (v:=.ref _) rfl pe rfl) ag))) (aa (aJ (id (α:=dZ _ _ (yN K a cls)) (gG (oe:=oe) (WD _ (Wy.mpr rfl)) hc hnc)) rfl cV Xp (aa (pv 3) (aa (EA rfl vf PyProof.Rows.Boot.«ValueError» (v:=.ty "ValueError") rfl) ag))) ag)))))
 (ao (ay (i:=2) bY.nd rfl (W6 rfl) (ar cB (pv 2) (aL (aa (zK (aJ (id (α:=dZ _ _ (yN K a cls)) (gG (oe:=oe) (WD _ (Wy.mpr rfl)) hc hnc)) rfl cV Xp (aa (pv 3) (aa (bO (v:=.ref _) rfl D7 rfl) ag))) (zK (aJ (id (α:=dZ _ _ (yN K a cls)) (gG (oe:=oe) (WD _ (Wy.mpr rfl)) hc hnc)) rfl cV Xp (aa (pv 3) (aa (bO (v:=.ref _) rfl BJ rfl) ag))) (my (aJ (id (α:=dZ _ _ (yN K a cls)) (gG (oe:=oe) (WD _ (Wy.mpr rfl)) hc hnc)) rfl cV Xp (aa (pv 3) (aa (bO (v:=.ref _) rfl D8 rfl) ag)))))) ag))))))) HU))
 (ao (aF (dI (aa (pv 1) (aa (pv 2) ag)))))))),?_⟩
 refine⟨(by show 0≤Wt;decide),fun l0 uI=>?_⟩
 have s0:=ai uI (.lst [])
 have Mm:=ae (H:=H) (a:=l0) (o:=.lst [])
 generalize upd H l0 (.lst [])=H0 at s0 Mm ⊢
 refine⟨_,rfl,ls,rfl,hB,?_⟩
 show GK K c (Cs 1) (Cs 2) H0 _ _ (allR ls)
 cases er:allR ls with
 | ok ks rs =>
  refine⟨good ks rs er,fun v H2 s2 Qc=>⟨_,rfl,_,rfl,(by show 2≤Wt;decide),fun t ht=>?_⟩⟩
  have s6:=ai ht (.tup [v,V.ref l0])
  exact q t l0 v _ (aj.trans s0 (aj.trans s2 s6)) ae (fun z=>by rw [er] at z;cases z) (fun z=>by rw [er] at z;cases z) (fun OX Rw z=>by
   rw [er] at z
   cases z
   exact⟨s6 _ _ (s2 _ _ Mm),_,Qc.keep (Kp.same s6)⟩)
 | bad =>
  intro H2 s2
  refine⟨true,xP 1 (by decide) (by decide),fun _ e=>?_,fun z=>by cases z⟩
  refine⟨_,rfl,_,.ref (Cs 1),Cs 1,_,rfl,.inl ⟨Cs 1,rfl,rfl⟩,rfl,Z 1 (by decide) (by decide),kI 1 1 (by decide) (by decide) (by decide) (by decide),?_⟩
  refine⟨_,rfl,_,.ref (Cs 2),Cs 1,_,rfl,.inl ⟨Cs 2,rfl,rfl⟩,rfl,Z 1 (by decide) (by decide),kI 1 2 (by decide) (by decide) (by decide) (by decide),?_⟩
  refine⟨_,rfl,_,.type "ValueError",Cs 1,true,rfl,.inr ⟨_,rfl,rfl⟩,rfl,Z 1 (by decide) (by decide),kV 1 (by decide) (by decide),?_⟩
  refine⟨(by show 3≤Wt;decide),fun l2 oU=>?_⟩
  have s3:=ai oU (.lst [.bl (1 == 1),.bl (1 == 2),.bl true])
  refine⟨_,rfl,_,rfl,_,.ref (Cs 3),Cs 1,_,rfl,.inl ⟨Cs 3,rfl,rfl⟩,rfl,Z 1 (by decide) (by decide),kI 1 3 (by decide) (by decide) (by decide) (by decide),_,rfl,?_⟩
  refine a7 ⟨_,rfl,_,.ref (Cs 4),Cs 1,_,rfl,.inl ⟨Cs 4,rfl,rfl⟩,rfl,Z 1 (by decide) (by decide),kI 1 4 (by decide) (by decide) (by decide) (by decide),_,rfl,?_⟩
  refine a7 ⟨_,rfl,_,.ref (Cs 5),Cs 1,_,rfl,.inl ⟨Cs 5,rfl,rfl⟩,rfl,Z 1 (by decide) (by decide),kI 1 5 (by decide) (by decide) (by decide) (by decide),?_⟩
  refine⟨(by show 1≤Wt;decide),fun l3 BD=>?_⟩
  have s4:=ai BD (.lst [.bl (1 == 5)])
  refine⟨l2,l3,_,_,rfl,rfl,s4 _ _ ae,ae,(by show 4≤Wt;decide),fun l4 LD=>?_⟩
  have s5:=ai LD (.lst [.bl (1 == 1),.bl (1 == 2),.bl true,.bl (1 == 5)])
  refine⟨_,rfl,_,rfl,(by show 2≤Wt;decide),fun t ht=>?_⟩
  have s6:=ai ht (.tup [V.bG,V.ref l4])
  exact q t l4 .bG _ (aj.trans s0 (aj.trans s2 (aj.trans s3 (aj.trans s4 (aj.trans s5 s6))))) ae (fun z=>by rw [er] at z;first|exact s6 _ _ ae|cases z) (fun z=>by rw [er] at z;first|exact s6 _ _ ae|cases z) (fun ks rs z=>by rw [er] at z;cases z)
 | twice =>
  intro H2 s2
  refine⟨true,xP 2 (by decide) (by decide),fun _ e=>?_,fun z=>by cases z⟩
  refine⟨_,rfl,_,.ref (Cs 1),Cs 2,_,rfl,.inl ⟨Cs 1,rfl,rfl⟩,rfl,Z 2 (by decide) (by decide),kI 2 1 (by decide) (by decide) (by decide) (by decide),?_⟩
  refine⟨_,rfl,_,.ref (Cs 2),Cs 2,_,rfl,.inl ⟨Cs 2,rfl,rfl⟩,rfl,Z 2 (by decide) (by decide),kI 2 2 (by decide) (by decide) (by decide) (by decide),?_⟩
  refine⟨_,rfl,_,.type "ValueError",Cs 2,true,rfl,.inr ⟨_,rfl,rfl⟩,rfl,Z 2 (by decide) (by decide),kV 2 (by decide) (by decide),?_⟩
  refine⟨(by show 3≤Wt;decide),fun l2 oU=>?_⟩
  have s3:=ai oU (.lst [.bl (2 == 1),.bl (2 == 2),.bl true])
  refine⟨_,rfl,_,rfl,_,.ref (Cs 3),Cs 2,_,rfl,.inl ⟨Cs 3,rfl,rfl⟩,rfl,Z 2 (by decide) (by decide),kI 2 3 (by decide) (by decide) (by decide) (by decide),_,rfl,?_⟩
  refine a7 ⟨_,rfl,_,.ref (Cs 4),Cs 2,_,rfl,.inl ⟨Cs 4,rfl,rfl⟩,rfl,Z 2 (by decide) (by decide),kI 2 4 (by decide) (by decide) (by decide) (by decide),_,rfl,?_⟩
  refine a7 ⟨_,rfl,_,.ref (Cs 5),Cs 2,_,rfl,.inl ⟨Cs 5,rfl,rfl⟩,rfl,Z 2 (by decide) (by decide),kI 2 5 (by decide) (by decide) (by decide) (by decide),?_⟩
  refine⟨(by show 1≤Wt;decide),fun l3 BD=>?_⟩
  have s4:=ai BD (.lst [.bl (2 == 5)])
  refine⟨l2,l3,_,_,rfl,rfl,s4 _ _ ae,ae,(by show 4≤Wt;decide),fun l4 LD=>?_⟩
  have s5:=ai LD (.lst [.bl (2 == 1),.bl (2 == 2),.bl true,.bl (2 == 5)])
  refine⟨_,rfl,_,rfl,(by show 2≤Wt;decide),fun t ht=>?_⟩
  have s6:=ai ht (.tup [V.bG,V.ref l4])
  exact q t l4 .bG _ (aj.trans s0 (aj.trans s2 (aj.trans s3 (aj.trans s4 (aj.trans s5 s6))))) ae (fun z=>by rw [er] at z;first|exact s6 _ _ ae|cases z) (fun z=>by rw [er] at z;first|exact s6 _ _ ae|cases z) (fun ks rs z=>by rw [er] at z;cases z)
end
end iR
namespace iR
open PySem L2 bB Bk
set_option maxHeartbeats 4000000
section
variable {P:WM} {w:Xj} {K:Wo} {mg:Str→Option Wr} {base:Heap} {f:WA} {fd:Xk} {c:Cl}
theorem dU:aC ["_law_script","_law_titles_here","_law_great","_law_way","_law_told","_law_lines","_law_faults","_law_number","_law_cell","_law_row","_law_asked_here","_law_found"] ["_law_script"] (av lS):=⟨rfl,rfl,rfl,by decide +kernel,rfl,by decide +kernel,by decide +kernel⟩
theorem Jf (F:du K "law" "law" lS f fd) (BT:Il K c.book) (RT:uo K c.rule) (cw:gD P w K mg base "_law_cell_at" 1 ["_law_script","_law_k"] (Dn K)) (dR:gD P w K mg base "_law_mix" 1 ["_law_cell","_law_k"] Dp) (gp:gD P w K mg base "_law_titles" 3 ["_law_cell","_law_many"] (uy cX.cps.toList)) (iA:gD P w K mg base "_law_opens" 3 ["_law_cell","_law_many"] (uy dJ.cps.toList))
  (jE:gD P w K mg base "_law_line" 3 ["_law_titles_here","_law_great","_law_way","_law_told","_law_number"] xB) (iB:gD P w K mg base "_law_asked" 10 ["_law_text"] (tE K c)) (bo:mg "len"=none):aU P w K mg base fK 11 f fd ["_law_script"] (Ag K):=by
 refine F.ok dU (fun vs H Q E h=>?_) (fun cE A outer s H vs Q E hr h=>?_)
 ·obtain⟨a,ns,rfl,_⟩:=h
  rfl
 obtain⟨a,ns,rfl,hS,hn,q⟩:=h
 have hu:=wA hr
 refine⟨_,(af (ay (i:=1) dU.nd rfl (W6 rfl) (cg oS (dc [] rfl (by kernel_rfl) (bj (ax gp (hr.mono (by decide)) rfl (aa (ax cw (hr.mono (by decide)) rfl (aa (pv 0) (aa ak ag))) (aa ak ag)))) (fun _ _ _ _ _=>(ud (aB gv (pv 0) aq (aK _)))) (fun _ _ _ _ _=>(pv 0))) dW (cb ak)))
 (af (ay (i:=2) dU.nd rfl (W6 rfl) (aA az (ax iA (hr.mono (by decide)) rfl (aa (ax cw (hr.mono (by decide)) rfl (aa (pv 0) (aa ak ag))) (aa ak ag))) ak (fun _ _=>rfl)))
 (af (ay (i:=3) dU.nd rfl (W6 rfl) (ar bQ (ax cw (hr.mono (by decide)) rfl (aa (pv 0) (aa ak ag))) ak))
 (af (ay (i:=4) dU.nd rfl (W6 rfl) (aL (aa (aL ag) (aa (aL ag) ag))))
 (af (ay (i:=5) dU.nd rfl (W6 rfl) (aL (aa aq ag)))
 (af (ay (i:=6) dU.nd rfl (W6 rfl) (aL ag))
 (af (ay (i:=7) dU.nd rfl (W6 rfl) (ar t6 (ar bQ (ax cw (hr.mono (by decide)) rfl (aa (pv 0) (aa ak ag))) ak) ak))
 (af (dk Xn rfl (bj (cg oS (pv 0) (cb ak) (cb ak))) (b8 (i:=8) dU.nd rfl (W6 rfl))
 (af (ay (i:=9) dU.nd rfl (W6 rfl) (ax jE (hr.mono (by decide)) rfl (aa (pv 1) (aa (pv 2) (aa (pv 3) (aa (pv 4) (aa (ar de (ax dR (hr.mono (by decide)) rfl (aa (pv 8) (aa ak ag))) (pv 7)) ag)))))))
 (af (bu (dg WZ W4 W9 bz (pv 5) (aa (aA az (pv 9) ak (fun _ _=>rfl)) ag)))
 (af (aX (aB wo (aA az (pv 9) ak (fun _ _=>rfl)) ak (aK _))
 (ao (bu (dg WZ W4 W9 bz (pv 6) (aa (aA az (pv 9) ak (fun _ _=>rfl)) ag))))
 aE)
 (ao (aX (aB dm (aJ aD rfl bo W0 (aa (pv 6) ag)) ak (aK _))
 (ao (ay (i:=3) dU.nd rfl (W6 rfl) ak))
 aE))))))
 (af (ay (i:=10) dU.nd rfl (W6 rfl) (ax iB (hr.mono (by decide)) rfl (aa (dg Yo aac aad zX aq (aa (pv 5) ag)) ag)))
 (af (aX (aB wo (aJ aD rfl bo W0 (aa (pv 6) ag)) ak (aK _))
 (ao (aF (cN (yP hr.units) (aA bE (pv 10) ak (fun _ _=>rfl)) (aL (aa (cN dm (aA az (pv 6) ak (fun _ _=>rfl)) ak (aK _)) (aa (cN dm (aA az (pv 6) ak (fun _ _=>rfl)) ak (aK _)) (aa sx (aa sx ag))))) (aK _))))
 aE)
 (af (aX (aB (IB hr.units) (aA bE (pv 10) ak (fun _ _=>rfl)) (aL ag) (aK _))
 (ao (aF sx))
 aE)
 (af (zW (i:=11) [] dU.nd rfl (W6 rfl) rfl (by kernel_rfl) (bj (pe_fld (aA bE (pv 10) ak (fun _ _=>rfl)) rfl)) (fun _ _ _ _ _=>cT) (fun _ _ _ _ _=>(aA (r:=yy K) bE (pv 0) ak (fun _ _=>rfl))))
 (ao (aF (tW (cN (yP hr.units) (pv 11) (ar cB (aL (aa aq ag)) (aA az (pv 4) ak (fun _ _=>rfl))) (aK _)) (my (cN (yP hr.units) (dc [] rfl (by kernel_rfl) (bj (pe_fld (aA bE (pv 10) ak (fun _ _=>rfl)) rfl)) (fun _ _ _ _ _=>cT) (fun _ _ _ _ _=>(z0 (K:=K) rfl (pv 0) rfl))) (aA az (pv 4) ak (fun _ _=>rfl)) (aK _)))))))))))))))))),?_⟩
 refine⟨_,rfl,a,ns,0,rfl,hS,by decide,fun v0=>⟨v0,9,rfl,by decide,fun lz zs H1 s1 hlz Qd hz Vj Qe=>?_⟩⟩
 refine⟨lz,rfl,⟨_,aI.of Qd⟩,fun D hD=>?_⟩
 refine sW (K:=K) (xs:=zs.map tx) zs (fun z=>decide (z≠[107])) (fun z=>z) (fun _ _ b y=>y=tx b) (fun _ _ _ _ _ _ h=>h) (fun _ _ _ _ _ _ h=>h) (lu (by rw [Lm9];omega)) hD (aI.of Qd) (by rw [Lm9]) (fun i x b H' R hx hb sm hQ=>?_) (fun i x b H' R hx hb hk sm hQ=>?_) (fun H2 ys s2 IL po=>?_)
 ·rw [WX,hb] at hx
  cases hx
  refine⟨_,rfl,rfl,_,rfl,?_⟩
  have e:(!decide (tx b=V.str (Wn "k")))=decide (b≠[107]):=by
   rw [show V.str (Wn "k")=tx [107] by decide +kernel,lh,decide_not]
  rw [e]
  exact hQ _ (aj.refl _)
 ·rw [WX,hb] at hx
  cases hx
  exact⟨_,rfl,hQ _ _ (aj.refl _) rfl⟩
 rw [List.map_id'] at po
 rw [dM po] at IL
 have T:=II hz Vj Qe
 refine⟨_,rfl,D,_,rfl,aI.of IL,fun lt pA=>?_⟩
 rw [show gU ((zs.filter fun z=>decide (z≠[107])).map tx) none (some 8)=((zs.filter fun z=>decide (z≠[107])).take 8).map tx from Fm _ 8]
 generalize (zs.filter fun z=>decide (z≠[107])).take 8=TS at T ⊢
 have s3:=aj.trans (aj.trans s1 s2) (ai pA (.lst (TS.map tx)))
 have Qf:=ae (H:=H2) (a:=lt) (o:=.lst (TS.map tx))
 generalize upd H2 lt (.lst (TS.map tx))=H3 at s3 Qf ⊢
 clear IL Qd
 refine cq ?_
 dsimp only
 refine⟨_,rfl,a,ns,1,rfl,s3.seq hS,by decide,fun v1=>⟨v1,1,rfl,by decide,fun lo os H4 s4 hlo Su ho Vk Vl=>?_⟩⟩
 have Sv:0<os.length:=by omega
 have G:=IJ (Vk _ (WT Sv))
 refine⟨lo,_,0,tx os[0],rfl,rfl,aI.of Su,bT (j:=0) (by rw [WX,Ge9 Sv];rfl),?_⟩
 generalize os[0]=gg at G ⊢
 have sA:=aj.trans s3 s4
 have Jg:=s4 _ _ Qf
 clear Su Qf
 refine cq ?_
 dsimp only
 refine⟨_,rfl,a,ns,2,rfl,sA.seq hS,by decide,fun v2=>⟨_,_,rfl,rfl,(by show(0:Int)<4;decide),?_⟩⟩
 refine cq ?_
 dsimp only
 generalize v2 % 4=way
 refine⟨(by show 0≤Wt;decide),fun l0 uI=>⟨(by show 0≤Wt;decide),fun l1 Fd=>⟨(by show 2≤Wt;decide),fun fh BK=>?_⟩⟩⟩
 have hl1':H4 l1=none:=(ai uI _).free Fd
 have Sw:H4 fh=none:=(aj.trans (ai uI _) (ai Fd _)).free BK
 have JI:l0≠l1:=fun z=>by rw [← z,ae] at Fd;cases Fd
 have Mj:fh≠l1:=fun z=>by rw [z,ae] at BK;cases BK
 have Mi:fh≠l0:=fun z=>by rw [z,aw JI,ae] at BK;cases BK
 have s5:aj H4 (upd (upd (upd H4 l0 (.lst [])) l1 (.lst [])) fh (.lst [.ref l0,.ref l1])):=aj.trans (ai uI _) (aj.trans (ai Fd _) (ai BK _))
 have Mn:=ae (H:=upd (upd H4 l0 (.lst [])) l1 (.lst [])) (a:=fh) (o:=.lst [.ref l0,.ref l1])
 have Mo:upd (upd (upd H4 l0 (.lst [])) l1 (.lst [])) fh (.lst [.ref l0,.ref l1]) l0=some (.lst (([]:List Cs).map tx)):=by rw [aw (Xl Mi),aw JI];exact ae
 have Mp:upd (upd (upd H4 l0 (.lst [])) l1 (.lst [])) fh (.lst [.ref l0,.ref l1]) l1=some (.lst (([]:List Cs).map tx)):=by rw [aw (Xl Mj)];exact ae
 generalize upd (upd (upd H4 l0 (.lst [])) l1 (.lst [])) fh (.lst [.ref l0,.ref l1])=H5 at s5 Mn Mo Mp ⊢
 refine cq ?_
 dsimp only
 refine⟨(by show 1≤Wt;decide),fun ll JD=>?_⟩
 have e6:[V.str (Wn "lasting k 0")]=[(Wn "lasting k 0").cps.toList].map tx:=by rw [List.map_singleton,tx,rj]
 rw [e6]
 have s6:=ai JD (.lst ([(Wn "lasting k 0").cps.toList].map tx))
 have Nl:=ae (H:=H5) (a:=ll) (o:=.lst ([(Wn "lasting k 0").cps.toList].map tx))
 generalize upd H5 ll (.lst ([(Wn "lasting k 0").cps.toList].map tx))=H6 at s6 Nl ⊢
 refine cq ?_
 dsimp only
 refine⟨(by show 0≤Wt;decide),fun lf DM=>?_⟩
 have s7:=ai DM (.lst [])
 have Qg:upd H6 lf (.lst []) lf=some (.lst (([]:List Nat).map fun(n:Nat)=>V.int n)):=ae
 generalize upd H6 lf (.lst [])=H7 at s7 Qg ⊢
 refine cq ?_
 dsimp only
 have Sx:aj H4 H7:=aj.trans s5 (aj.trans s6 s7)
 have sB:=aj.trans sA Sx
 refine⟨_,rfl,a,ns,3,rfl,sB.seq hS,by decide,fun v3=>⟨_,_,rfl,rfl,(by show(0:Int)<1009;decide),_,_,rfl,rfl,.inr ⟨by decide,by decide⟩,?_⟩⟩
 refine cq ?_
 dsimp only
 have Sy:0≤v3 % 1009 * 8:=Int.mul_nonneg (YQ _ (by decide)) (by decide)
 generalize v3 % 1009 * 8=nb at Sy ⊢
 refine⟨_,rfl,_,rfl,_,rfl,a,_,rfl,sB.seq hS,fun lc JK=>?_⟩
 obtain⟨ms,Qh,Wk⟩:=Dq ns (some 4) (some 48)
 have Qh:gU (ns.map V.int) (some 4) (some 48)=ms.map V.int:=Qh
 rw [Qh]
 have s8:=ai JK (.lst (ms.map V.int))
 have Qi:=ae (H:=H7) (a:=lc) (o:=.lst (ms.map V.int))
 have k8:upd H7 lc (.lst (ms.map V.int)) fh=some (.lst [.ref l0,.ref l1])∧upd H7 lc (.lst (ms.map V.int)) l0=some (.lst (([]:List Cs).map tx))∧upd H7 lc (.lst (ms.map V.int)) l1=some (.lst (([]:List Cs).map tx))∧upd H7 lc (.lst (ms.map V.int)) ll=some (.lst ([(Wn "lasting k 0").cps.toList].map tx))∧upd H7 lc (.lst (ms.map V.int)) lf=some (.lst (([]:List Nat).map fun(n:Nat)=>V.int n)) :=
  ⟨s8 _ _ (s7 _ _ (s6 _ _ Mn)),s8 _ _ (s7 _ _ (s6 _ _ Mo)),s8 _ _ (s7 _ _ (s6 _ _ Mp)),s8 _ _ (s7 _ _ Nl),s8 _ _ Qg⟩
 have nl:ll≠l0∧ll≠l1∧ll≠fh:=⟨Xl (au Mo JD),Xl (au Mp JD),Xl (au Mn JD)⟩
 have nf:lf≠l0∧lf≠l1∧lf≠fh∧lf≠ll:=⟨Xl (au (s6 _ _ Mo) DM),Xl (au (s6 _ _ Mp) DM),Xl (au (s6 _ _ Mn) DM),Xl (au Nl DM)⟩
 have nc:lc≠l0∧lc≠l1∧lc≠fh∧lc≠ll∧lc≠lf:=⟨Xl (au (s7 _ _ (s6 _ _ Mo)) JK),Xl (au (s7 _ _ (s6 _ _ Mp)) JK),Xl (au (s7 _ _ (s6 _ _ Mn)) JK),Xl (au (s7 _ _ Nl) JK),Xl (au Qg JK)⟩
 have Qj:H4 ll=none:=s5.free JD
 have Qk:H4 lf=none:=(aj.trans s5 s6).free DM
 have Sn:lt≠l0:=au Jg uI
 have So:lt≠l1:=au Jg hl1'
 have Sz:=aj.trans Sx s8
 generalize upd H7 lc (.lst (ms.map V.int))=H8 at s8 Qi k8 Sz ⊢
 refine⟨lc,rfl,⟨_,aI.of Qi⟩,cf (K:=K) (a:=lc) (xs:=ms.map V.int) (fun i σ H'=>∃(ls t0 t1:List Cs) (fs:List Nat) (way:Int) (o8 o9:Option V),σ=[some (.ref a),some (.ref lt),some (tx gg),some (.int way),some (.ref fh),some (.ref ll),some (.ref lf),some (.int nb),o8,o9,none,none]∧aj H4 H'∧H' fh=some (.lst [.ref l0,.ref l1])∧H' l0=some (.lst (t0.map tx))∧H' l1=some (.lst (t1.map tx))∧H' ll=some (.lst (ls.map tx))∧H' lf=some (.lst (fs.map fun(n:Nat)=>V.int n))∧H' lc=some (.lst (ms.map V.int))∧ls.length=i+1∧fs.length≤i∧(∀l∈ls,Ln l)∧Res ls t0 t1 fs∧Tl TS t0 t1)
  ⟨[(Wn "lasting k 0").cps.toList],[],[],[],way,none,none,rfl,Sz,k8.1,k8.2.1,k8.2.2.1,k8.2.2.2.1,k8.2.2.2.2,Qi,rfl,Wz _,(fun l hl=>by rw [Wy.mp hl];exact Ln.start),Res.start,⟨rfl,rfl,by decide,by decide⟩⟩ (fun i σ H' _ ⟨_,_,_,_,_,_,_,_,_,_,_,_,_,_,h,_⟩=>aI.of h) ?_ ?_⟩
 ·rintro i y σ H' hi ⟨ls,t0,t1,fs,way,o8,o9,rfl,sm,kd,k0,k1,kl,kf,kc,Ex,ET,IK,hR,TL⟩
  obtain⟨v8,ey⟩:=bJ hi
  rw [Lm9] at v8
  rw [Xw] at ey
  subst ey
  refine cq ?_
  dsimp only
  refine⟨_,rfl,_,rfl,_,rfl,_,rfl,_,rfl,ms[i],5,rfl,by decide,by decide,fun mx HM sM OT=>?_⟩
  refine⟨_,rfl,_,_,rfl,rfl,lt,fh,l0,l1,TS,t0,t1,S gg,way,_,rfl,sM _ _ (sm _ _ Jg),T,G,Int.add_nonneg OT Sy,sM _ _ kd,JI,Sn,So,Mi,Mj,sM _ _ k0,sM _ _ k1,TL,fun BL x fl Br Bs HL kp G6 uJ j0 j1 st JJ Vm=>?_⟩
  refine cq ?_
  dsimp only
  have SA:=kp _ _ nl.1 nl.2.1 (sM _ _ kl)
  have Vn:=kp _ _ nf.1 nf.2.1 (sM _ _ kf)
  have Vo:=kp _ _ nc.1 nc.2.1 (sM _ _ kc)
  have Vp:=kp _ _ Mi Mj (sM _ _ kd)
  have Vq:aj H4 HL:=fun b o e=>kp b o (au e uI) (au e hl1') (sM _ _ (sm _ _ e))
  have Ql:BL≠ll∧BL≠lf:=⟨Xl (au (sM _ _ kl) G6),Xl (au (sM _ _ kf) G6)⟩
  refine⟨_,rfl,.inl ⟨rfl,_,aI.of SA⟩,_,rfl,BL,_,0,_,rfl,rfl,aI.of uJ,rfl,ll,_,_,rfl,rfl,SA,lu (by rw [Lm9];omega),?_⟩
  have e1:ls.map tx++[V.str x]=(ls++[x.cps.toList]).map tx:=by rw [WQ,List.map_singleton,tx,rj]
  rw [e1]
  dsimp only
  have Qm:aj H4 (upd HL ll (.lst ((ls++[x.cps.toList]).map tx))):=aj.aS Vq Qj _
  have Qn:=ae (H:=HL) (a:=ll) (o:=.lst ((ls++[x.cps.toList]).map tx))
  have FC:∀b o,b≠ll→HL b=some o→upd HL ll (.lst ((ls++[x.cps.toList]).map tx)) b=some o:=fun b o hb e=>by rw [aw hb];exact e
  generalize upd HL ll (.lst ((ls++[x.cps.toList]).map tx))=HX at Qm Qn FC ⊢
  have Qo:=FC _ _ nf.2.2.2 Vn
  have SD:=FC _ _ nc.2.2.2.1 Vo
  have kdX:=FC _ _ (Xl nl.2.2) Vp
  have SE:=FC _ _ (Xl nl.1) j0
  have SF:=FC _ _ (Xl nl.2.1) j1
  have G7:=FC _ _ Ql.1 uJ
  have Nm:=st.res hR
  have Mq:∀l∈ls++[x.cps.toList],Ln l:=fun l hl=>by
   rcases WU.mp hl with z|z
   ·exact IK l z
   ·rw [Wy.mp z];exact Vm
  have Mr:(ls++[x.cps.toList]).length=i+1+1:=by rw [Wq,WL];omega
  refine lR (Good:=fun σ' H2=>∃fs',fs'.length≤i+1∧Res (ls++[x.cps.toList]) Br Bs fs'∧aj H4 H2∧H2 fh=some (.lst [.ref l0,.ref l1])∧H2 l0=some (.lst (Br.map tx))∧H2 l1=some (.lst (Bs.map tx))∧H2 ll=some (.lst ((ls++[x.cps.toList]).map tx))∧H2 lf=some (.lst (fs'.map fun(n:Nat)=>V.int n))∧H2 lc=some (.lst (ms.map V.int))∧σ'=[some (.ref a),some (.ref lt),some (tx gg),some (.int way),some (.ref fh),some (.ref ll),some (.ref lf),some (.int nb),some (.int ms[i]),some (.ref BL),none,none]) (fun fin=>?_) (fun σ' H2 hg=>?_)
  ·refine⟨_,rfl,BL,_,1,_,rfl,rfl,aI.of G7,rfl,_,_,rfl,rfl,_,rfl,?_⟩
   by_cases Fx:fl=0
   ·rw [decide_eq_false (by omega)]
    rw [if_pos Fx] at Nm
    exact a7 (fin _ _ ⟨fs,by omega,Nm,Qm,kdX,SE,SF,Qn,Qo,SD,rfl⟩)
   ·rw [decide_eq_true (by omega)]
    rw [if_neg Fx] at Nm
    refine bF ⟨_,rfl,.inl ⟨rfl,_,aI.of Qo⟩,_,rfl,BL,_,1,_,rfl,rfl,aI.of G7,rfl,lf,_,_,rfl,rfl,Qo,lu (by rw [Lm9];omega),?_⟩
    have e2:(fs.map fun(n:Nat)=>V.int n)++[V.int fl]=(fs++[fl]).map fun(n:Nat)=>V.int n:=by rw [WQ];rfl
    rw [e2]
    refine fin _ _ ⟨fs++[fl],by rw [Wq,WL];omega,Nm,aj.aS Qm Qk _,?_,?_,?_,?_,ae,?_,rfl⟩
    ·rw [aw (Xl nf.2.2.1)];exact kdX
    ·rw [aw (Xl nf.1)];exact SE
    ·rw [aw (Xl nf.2.1)];exact SF
    ·rw [aw (Xl nf.2.2.2)];exact Qn
    ·rw [aw nc.2.2.2.2];exact SD
  ·obtain⟨fs',Ms,hR',pJ,kd2,SG,k12,SH,Qp,SI,rfl⟩:=hg
   refine⟨_,rfl,lf,_,rfl,.inl (aI.of Qp),rfl,_,rfl,?_⟩
   refine iN (fun _=>?_) (fun _=>?_)
   ·exact⟨_,Br,Bs,fs',0,_,_,rfl,pJ,kd2,SG,k12,SH,Qp,SI,Mr,Ms,Mq,hR',JJ⟩
   ·exact⟨_,Br,Bs,fs',way,_,_,rfl,pJ,kd2,SG,k12,SH,Qp,SI,Mr,Ms,Mq,hR',JJ⟩
 ·rintro σ H9 ⟨ls,t0,t1,fs,Vr,o8,o9,rfl,sm,kd,k0,k1,kl,kf,kc,Ex,ET,IK,hR,TL⟩
  rw [Lm9] at Ex ET
  have Vs:Az ls:=DJ (fun z=>by rw [z] at Ex;cases Ex) IK (by omega)
  have Vt:(Wn "\n")=⟨#[10]⟩:=by decide +kernel
  have e1:(⟨#[10]⟩:Str).length=1:=rfl
  have z1:=uw (as:=ls) (B:=120) fun l hl=>(IK l hl).len
  have y1:ls.length * 120≤70 * 120:=Nat.mul_le_mul_right _ (by omega)
  dsimp only
  rw [Vt]
  refine⟨rfl,_,rfl,_,ll,ls.map S,rfl,rfl,.inl (aI.of (by rw [← fU];exact kl)),(by rw [e1,Lm9];omega),?_⟩
  rw [Fj,Ai]
  have good:∀ks rs,allR ls=.ok ks rs→∀r∈rs,pY ks r:=fun ks rs e=>by
   cases fs with
   | nil =>
    obtain⟨OX,h1,_,h3⟩:=hR
    rw [h1] at e
    cases e
    exact Bt h3 t1
   | cons f r =>
    rcases hR with⟨_,h⟩|⟨_,h⟩ <;> rw [h] at e <;> cases e
  refine⟨ls,rfl,Vs,good,fun t lg v HA Qq ht hb1 Vu Nd=>?_⟩
  refine cq ?_
  dsimp only
  have Np:=Qq _ _ kf
  cases fs with
  | nil =>
   obtain⟨ks,h1,h2,h3⟩:=hR
   obtain⟨hF,H0,Qc⟩:=Nd _ _ h1
   refine⟨_,rfl,lf,_,rfl,.inl (aI.of Np),_,_,rfl,rfl,_,rfl,?_⟩
   refine a7 ?_
   dsimp only
   refine⟨_,rfl,t,_,1,_,rfl,rfl,da.of ht,rfl,(by show 0≤Wt;decide),fun le hle=>?_⟩
   have v1:=ai hle (.lst [])
   have y1:=ae (H:=HA) (a:=le) (o:=.lst [])
   generalize upd HA le (.lst [])=HB at v1 y1 ⊢
   refine⟨Alike.bools (bs:=[]) (aI.of (v1 _ _ hF)) (aI.of y1),_,rfl,a7 ?_⟩
   have Vv:=v1 _ _ ht
   obtain⟨xb,LO,fb,rfl,_,SJ,⟨vk,ek,lk,kvs,rfl,_,hk,pk⟩,⟨vr,er,lr,jU,rfl,_,O6,pr⟩⟩:=Qc
   have Vw:=v1 _ _ SJ
   have SK:=v1 _ _ hk
   have zk:=WW pk
   have zr:=WW pr
   have R9:ks.length≤6:=by
    have z:=congrArg XF h2
    rw [Lm9,WC] at z
    have:=TL.al
    omega
   have Nb:jU.length≤6:=by
    have:=TL.bl
    rw [Lm9] at zr
    omega
   refine⟨_,rfl,t,_,0,_,rfl,rfl,da.of Vv,rfl,xb,c.book,LO,fb,_,rfl,Vw,BT.cl,BT.n1,ek,lk,rfl,⟨_,aI.of SK⟩,fun D2 mw=>?_⟩
   refine i9 (K:=K) (xs:=kvs) (ks.map (·.n)) (fun _ _ b y=>y=tx b) (fun _ _ _ _ _ _ h=>h) (fun _ _ _ _ _ _ h=>h) (lu (by omega)) mw (aI.of SK) (by rw [Lm9];exact zk) (fun i x b H' R hx hb sm hQ=>?_) (fun HC ys Vx SM po=>?_)
   ·obtain⟨hi,ex⟩:=bJ hx
    obtain⟨lL,eb⟩:=bJ hb
    rw [Lm9] at lL
    rw [Xw] at eb
    obtain⟨tk,D5,Vy⟩:=paired_at pk i lL hi
    rw [ex] at D5
    subst D5
    refine⟨_,rfl,tk,_,0,_,rfl,rfl,Vy.same (aj.trans v1 sm),rfl,hQ _ _ (aj.refl _) ?_⟩
    rw [eb]
   rw [dM po,h2] at SM
   have v2:=aj.trans v1 Vx
   refine cq ?_
   dsimp only
   refine⟨_,rfl,(by show 1≤Wt;decide),fun l5 LJ=>?_⟩
   have v3:=ai LJ (.lst [V.str (Wn "k")])
   have y5:=ae (H:=HC) (a:=l5) (o:=.lst [V.str (Wn "k")])
   generalize upd HC l5 (.lst [V.str (Wn "k")])=HD at v3 y5 ⊢
   have SN:=aj.trans Qq (aj.trans v2 v3)
   refine⟨_,rfl,fh,_,0,_,rfl,rfl,aI.of (SN _ _ kd),rfl,l5,l0,_,_,rfl,rfl,y5,SN _ _ k0,sz (by rw [Lm9];have:=TL.al;simp only [WC,Xv];omega),fun l6 PQ=>?_⟩
   have v4:=ai PQ (.lst ([V.str (Wn "k")]++t0.map tx))
   have y6:upd HD l6 (.lst ([V.str (Wn "k")]++t0.map tx)) l6=some (.lst ((([107]::t0).map S).map V.str)):=by
    rw [ae,← fU,show V.str (Wn "k")=tx [107] by decide +kernel]
    rfl
   generalize upd HD l6 (.lst ([V.str (Wn "k")]++t0.map tx))=HE at v4 y6 ⊢
   have SO:=aj.trans v3 v4
   have Mu:=aj.trans v2 SO
   refine⟨Alike.texts (aI.of (by rw [← fU];exact SO _ _ SM)) (aI.of y6),_,rfl,bF ?_⟩
   have SQ:=Mu _ _ O6
   refine⟨_,rfl,t,_,0,_,rfl,rfl,da.of (Mu _ _ ht),rfl,xb,c.book,LO,fb,_,rfl,Mu _ _ SJ,BT.cl,BT.n2,er,lr,rfl,⟨_,aI.of SQ⟩,fun D3 JH=>?_⟩
   refine i9 (K:=K) (xs:=jU) ((t1.map fun t=>jb t fN).map (·.title)) (fun _ _ b y=>y=tx b) (fun _ _ _ _ _ _ h=>h) (fun _ _ _ _ _ _ h=>h) (lu (by omega)) JH (aI.of SQ) (by rw [Lm9];exact zr) (fun i x b H' R hx hb sm hQ=>?_) (fun HF Wl Vz SR VA=>?_)
   ·obtain⟨hi,ex⟩:=bJ hx
    obtain⟨lL,eb⟩:=bJ hb
    rw [Lm9] at lL
    rw [Xw] at eb
    obtain⟨a',VB,fs',ea,na,ha,RF⟩:=paired_at pr i lL hi
    rw [ex] at ea
    subst ea
    refine⟨_,rfl,a',c.rule,VB,fs',_,rfl,(aj.trans Mu sm) _ _ ha,RT.cl,RT.n1,RF.title,hQ _ _ (aj.refl _) ?_⟩
    rw [eb]
   rw [dM VA,mX] at SR
   have v5:=aj.trans Qq (aj.trans Mu Vz)
   exact⟨_,rfl,fh,_,1,_,rfl,rfl,aI.of (v5 _ _ kd),rfl,Alike.texts (aI.of (by rw [← fU];exact SR)) (aI.of (by rw [← fU];exact v5 _ _ k1)),q _⟩
  | cons f0 fr =>
   refine⟨_,rfl,lf,_,rfl,.inl (aI.of Np),_,_,rfl,rfl,_,rfl,?_⟩
   rw [decide_eq_true (by rw [Lm9,WC];omega)]
   refine bF ?_
   have SS:wx ((f0::fr).map fun(n:Nat)=>V.int n) 0=some (V.int (f0:Nat)):=bT (j:=0) rfl
   refine⟨_,rfl,t,_,1,_,rfl,rfl,da.of ht,rfl,_,rfl,lf,_,0,_,rfl,rfl,aI.of Np,SS,rfl,_,rfl,lf,_,0,_,rfl,rfl,aI.of Np,SS,rfl,(by show 4≤Wt;decide),fun le hle=>?_⟩
   have v1:=ai hle (.lst [V.bl (decide (V.int (f0:Nat)=V.int 1)),V.bl (decide (V.int (f0:Nat)=V.int 2)),V.bl true,V.bl false])
   have y1:=ae (H:=HA) (a:=le) (o:=.lst [V.bl (decide (V.int (f0:Nat)=V.int 1)),V.bl (decide (V.int (f0:Nat)=V.int 2)),V.bl true,V.bl false])
   rcases hR with⟨e,h⟩|⟨e,h⟩
   ·subst e
    exact⟨Alike.bools (bs:=[true,false,true,false]) (aI.of (v1 _ _ (hb1 h))) (aI.of y1),q _⟩
   ·subst e
    exact⟨Alike.bools (bs:=[false,true,true,false]) (aI.of (v1 _ _ (Vu h))) (aI.of y1),q _⟩
end
end iR
namespace iR
open PySem L2 bB Bk
open PySem.W (nsIn findIn keepIn mg_of isFn mroIn)
set_option maxHeartbeats 4000000
def bP (K:Wo) (x:Str) (st:Stmt) (f:WA) (fd:Xk):Prop:=nsIn K WN x=some (some (.ref f))∧du K x x st f fd
section
variable {P:WM} {w:Xj} {K:Wo} {mg:Str→Option Wr} {base h:Heap} {x:Str} {k:Nat} {ps:List Str} {sp:Sp} {f:WA} {fd:Xk} {st:Stmt}
def AK (ps:List Str) (x:Str) (st:Stmt):Prop:=∀(kV doc pm:Wr) (an:Option WA) (cE ct:Wr) (us:List Wr),us.length=ps.length→bindArgs (Yg x x (gW st) (eX st) (av st) .none kV doc pm an cE ct) ⟨us,[]⟩=pure (ps.zip us)
theorem Jh (X:K.In h) (G:h.Ns WN mg) (F:bP K x st f fd) (o:aU P w K mg base fK k f fd ps sp) (b:AK ps x st):gD P w K mg base x k ps sp:=⟨_,_,o,F.2.binds b,F.2.2,mg_of X G F.1⟩
theorem FF (X:K.In h) (G:h.Ns WN mg) (F:bP K x st f fd) (o:aU P w K mg base (oz P w) k f fd ps sp) (b:AK ps x st):g6 P w K mg base x k ps sp:=⟨_,_,o,F.2.binds b,F.2.2,mg_of X G F.1⟩
theorem b1 {Pr:List Wr→Prop} (h:∀u0,Pr [u0]):∀us:List Wr,us.length=1→Pr us
 | [u0],_=>h u0
theorem b2 {Pr:List Wr→Prop} (h:∀u0 u1,Pr [u0,u1]):∀us:List Wr,us.length=2→Pr us
 | [u0,u1],_=>h u0 u1
theorem b3 {Pr:List Wr→Prop} (h:∀u0 u1 u2,Pr [u0,u1,u2]):∀us:List Wr,us.length=3→Pr us
 | [u0,u1,u2],_=>h u0 u1 u2
theorem b5 {Pr:List Wr→Prop} (h:∀u0 u1 u2 u3 u4,Pr [u0,u1,u2,u3,u4]):∀us:List Wr,us.length=5→Pr us
 | [u0,u1,u2,u3,u4],_=>h u0 u1 u2 u3 u4
end
theorem AL {K:Wo} {C:WA} (h:mroIn K C (.type "ValueError")=some true):XI K (.ref C) (.type "ValueError")=some true:=by
 unfold XI
 rw [if_neg (by simp)]
 show(if PySem.W.kitMeta "ValueError"=true then PySem.W.subIn K (.ref C) (.type "ValueError") else none)=_
 rw [if_pos (by decide +kernel)]
 exact h
theorem all_mk {l:Z5} {w:Xj} {K:Wo} {h:Heap} {mg:Str→Option Wr} {fa dD bV bZ dE bh bD d8 dh d9 fO VC VD VE VF VG VH VI VJ VL VM Qr Qs Qt Qu Qv Qw Qx Qy Qz QA QB QC QD QE QF QG QH QI QJ QK QL QM QN QO QP QR QS QT QU QV QW QX Ji gq fI gr dY:WA} (X:K.In h) (G:h.Ns WN mg) (L9:mg "law"=some (.ref fa))
  {qz BM oJ zi zj D9 qA BN qB BO vh Ea zm vi rR rS vj vm rT vo rV xO lX xQ xR vp vq xS xT xU xV qC zo vv rW vw oK nq oM zp xW vx rY qD rZ r6:Xk} {Jj Eb:Option WA} {Jk:Array (Option Wr)} {Jl Ec Ed Ee zq Ef:Wr}
  {vy vz tG tH lY jF:Tok}
  {iC iD qE:WA}
  {qF qG qH qI qJ qK qL zu zw zx zy zz:Tok}
  {jX jY tI:Nat}
  {r9 sd BP:Array (Option Wr)}
  (FH:nsIn K WN "Same"=some (some (.ref dD)))
  (BQ:nsIn K WN "Unlike"=some (some (.ref bV)))
  (FI:nsIn K WN "Rule"=some (some (.ref bZ)))
  (FJ:nsIn K WN "Book"=some (some (.ref dE)))
  (BR:nsIn K WN "NoLine"=some (some (.ref bh)))
  (Eg:nsIn K WN "Twice"=some (some (.ref bD)))
  (BS:nsIn K WN "NoKind"=some (some (.ref d8)))
  (zA:nsIn K WN "BadArgs"=some (some (.ref dh)))
  (BU:nsIn K WN "NoName"=some (some (.ref d9)))
  (vA:nsIn K WN "PoolError"=some (some (.ref fO)))
  (Mv:nsIn K WN "law"=some (some (.ref Ji)))
  (vB:findIn K (.ref dD) "__init__"=some (some (.ref dY)))
  (qM:findIn K (.ref bV) "__init__"=some (some (.ref dY)))
  (vC:findIn K (.ref bZ) "__init__"=some (some (.ref gq)))
  (se:findIn K (.ref bZ) "calls"=some (some (.ref fI)))
  (vD:findIn K (.ref dE) "__init__"=some (some (.ref gr)))
  (sf:isFn K (.ref gq)=true)
  (qN:isFn K (.ref fI)=true)
  (sg:isFn K (.ref gr)=true)
  (jZ:isFn K (.ref dY)=true)
  (jG:bP K "is_name_sign" ft VC qz)
  (tJ:bP K "is_name" mZ VD BM)
  (iI:bP K "is_small_word" eG VE oJ)
  (qO:bP K "name_end" kL VF zi)
  (qP:bP K "piece_at" kO VG zj)
  (xX:bP K "pieces" qh VH D9)
  (jH:bP K "arguments_at" fB VI qA)
  (tK:bP K "fact_at" m3 VJ BN)
  (jI:bP K "row_of_facts" fA VL qB)
  (tL:bP K "is_told" m4 VM BO)
  (lZ:bP K "told_lines" g8 Qr vh)
  (xY:bP K "parted" qi Qs Ea)
  (qQ:bP K "is_great" kJ Qt zm)
  (l7:bP K "open_names" ia Qu vi)
  (j4:bP K "check_facts" fV Qv rR)
  (j5:bP K "check_taken" fW Qw rS)
  (l8:bP K "check_call" ie Qx vj)
  (l9:bP K "said_names" ig Qy vm)
  (j6:bP K "check_names" fY Qz rT)
  (ma:bP K "whole_book" ib QA vo)
  (j7:bP K "line_pieces" fX QB rV)
  (oa:bP K "read_kind" jh QC xO)
  (fP:bP K "check_two_names" dA QD lX)
  (og:bP K "read_look" jk QE xQ)
  (oh:bP K "read_pair" jl QF xR)
  (me:bP K "read_looks" g9 QG vp)
  (mf:bP K "read_pairs" hV QH vq)
  (oi:bP K "read_part" jj QI xS)
  (oj:bP K "read_rule" ji QJ xT)
  (om:bP K "hear_line" jq QK xU)
  (oo:bP K "read_book" jo QL xV)
  (jJ:bP K "_law_cell_at" fC QM qC)
  (qR:bP K "_law_mix" kU QN zo)
  (mh:bP K "_law_names" ij QO vv)
  (j8:bP K "_law_titles" fZ QP rW)
  (mi:bP K "_law_opens" ik QR vw)
  (iJ:bP K "_law_bad_kind" eI QS oK)
  (gM:bP K "_law_bad_heads" dO QT nq)
  (iK:bP K "_law_bad_rest" eJ QU oM)
  (qS:bP K "_law_bad" kW QV zp)
  (oq:bP K "_law_line" jr QW xW)
  (mj:bP K "_law_asked" il QX vx)
  (Mw:K.lookup Ji=some ⟨Jl,Jj,.func (Yg "law" "law" (gW lS) (eX lS) (av lS) .none Ec Ed Ee Eb zq Ef),Jk⟩)
  (Mx:Zt K zq "law"=true)
  (My:keepIn K (.ref Ji)=true)
  (j9:du K "__init__" "Rule.__init__" jm gq rY)
  (fJ:du K "calls" "Rule.calls" hW fI qD)
  (ka:du K "__init__" "Book.__init__" jn gr rZ)
  (kb:du K "__init__" "Look.__init__" jg dY r6)
  (FL:XX K dD Yk=true)
  (FN:X1 K dD=true)
  (FP:Yb K dD=true)
  (FQ:findIn K (.ref dD) "__setattr__"=some (some (.builtin "object.__setattr__")))
  (FT:Yr K dD=true)
  (FU:keepIn K (.ref dD)=true)
  (xZ:findIn K (.ref dD) "left"=some none)
  (vE:findIn K (.ref dD) "right"=some none)
  (Nq:findIn K (.ref dD) "__class__"=some (some (.builtin "object.__class__")))
  (Nr:mroIn K dD (.type "object")=some true)
  (BV:XX K bV Yk=true)
  (BW:X1 K bV=true)
  (BX:Yb K bV=true)
  (BY:findIn K (.ref bV) "__setattr__"=some (some (.builtin "object.__setattr__")))
  (BZ:Yr K bV=true)
  (B1:keepIn K (.ref bV)=true)
  (sh:findIn K (.ref bV) "left"=some none)
  (qU:findIn K (.ref bV) "right"=some none)
  (JL:findIn K (.ref bV) "__class__"=some (some (.builtin "object.__class__")))
  (JM:mroIn K bV (.type "object")=some true)
  (FV:XX K bZ Yk=true)
  (FW:X1 K bZ=true)
  (FX:Yb K bZ=true)
  (FY:findIn K (.ref bZ) "__setattr__"=some (some (.builtin "object.__setattr__")))
  (FZ:Yr K bZ=true)
  (F0:keepIn K (.ref bZ)=true)
  (vF:findIn K (.ref bZ) "title"=some none)
  (vG:findIn K (.ref bZ) "taken"=some none)
  (x2:findIn K (.ref bZ) "kept"=some none)
  (vH:findIn K (.ref bZ) "looks"=some none)
  (vI:findIn K (.ref bZ) "given"=some none)
  (x3:findIn K (.ref bZ) "told"=some none)
  (vJ:findIn K (.ref bZ) "names"=some none)
  (Nt:findIn K (.ref bZ) "__class__"=some (some (.builtin "object.__class__")))
  (Nu:mroIn K bZ (.type "object")=some true)
  (F3:XX K dE Yk=true)
  (F4:X1 K dE=true)
  (F5:Yb K dE=true)
  (F6:findIn K (.ref dE) "__setattr__"=some (some (.builtin "object.__setattr__")))
  (F7:Yr K dE=true)
  (F8:keepIn K (.ref dE)=true)
  (vK:findIn K (.ref dE) "kinds"=some none)
  (vL:findIn K (.ref dE) "rules"=some none)
  (Nv:findIn K (.ref dE) "__class__"=some (some (.builtin "object.__class__")))
  (Nx:mroIn K dE (.type "object")=some true)
  (hn:ZD K (.builtin "object.__class__") "__get__"=some (some (.builtin "getset_descriptor.__get__")))
  (Wm:PySem.W.takesIn K (.builtin "object.__class__")=some true)
  (qV:Yt K dh=true)
  (qW:Yl K (.ref dh)=some (.type "type"))
  (qX:mroIn K dh (.ref dh)=some true)
  (tM:Yt K d8=true)
  (tN:Yl K (.ref d8)=some (.type "type"))
  (tO:mroIn K d8 (.ref d8)=some true)
  (tP:Yt K bh=true)
  (B2:Yl K (.ref bh)=some (.type "type"))
  (B3:mroIn K bh (.ref bh)=some true)
  (tQ:Yt K d9=true)
  (tR:Yl K (.ref d9)=some (.type "type"))
  (tS:mroIn K d9 (.ref d9)=some true)
  (x4:Yt K bD=true)
  (Eh:Yl K (.ref bD)=some (.type "type"))
  (Ei:mroIn K bD (.ref bD)=some true)
  (oN:mroIn K bh (.ref bD)=some false)
  (nu:mroIn K bh (.ref d8)=some false)
  (ml:mroIn K bh (.ref dh)=some false)
  (nv:mroIn K bh (.ref d9)=some false)
  (oO:mroIn K bD (.ref bh)=some false)
  (oP:mroIn K bD (.ref d8)=some false)
  (ny:mroIn K bD (.ref dh)=some false)
  (oQ:mroIn K bD (.ref d9)=some false)
  (F9:nsIn K WN "GREAT"=some (some (.str dJ vy)))
  (Ga:nsIn K WN "SMALL"=some (some (.str cX vz)))
  (B4:nsIn K WN "FIGURES"=some (some (.str Ff tG)))
  (B5:nsIn K WN "LONGEST"=some (some (.int 12 tH)))
  (vM:nsIn K WN "LINE_MARKS"=some (some (.str cj lY)))
  (x5:nsIn K WN "RULE_WORD"=some (some (.str (S aY) jF)))
  (vN:nsIn K WN "ValueError"=some none)
  (Mz:nsIn K WN "all"=some none)
  (Jm:nsIn K WN "dict"=some none)
  (MA:nsIn K WN "int"=some none)
  (vO:nsIn K WN "isinstance"=some none)
  (MB:nsIn K WN "len"=some none)
  (Jn:nsIn K WN "list"=some none)
  (Gb:nsIn K WN "range"=some none)
  (MC:nsIn K WN "str"=some none)
  (Gd:nsIn K WN "tuple"=some none)
  (aM:Xo K bh A9 mF=true)
  (ph:Xo K bD A9 mF=true)
  (VN:YV K (.ref bh) (.ref fO)=some true)
  (VO:YV K (.ref bD) (.ref fO)=some true)
  (MD:ZD K (.builtin "object.__class__") "__get__"=some (some (.builtin "getset_descriptor.__get__")))
  (ME:ZD K (.builtin "object.__class__") "__set__"=some (some (.builtin "getset_descriptor.__set__")))
  (x6:findIn K (.ref bh) "__getattribute__"=some (some (.builtin "BaseException.__getattribute__")))
  (x8:findIn K (.ref bh) "__getattr__"=some none)
  (ya:findIn K (.ref bh) "__class__"=some (some (.builtin "object.__class__")))
  (yb:mroIn K bh (.type "object")=some true)
  (yc:mroIn K bh (.type "BaseException")=some true)
  (yd:mroIn K bh (.type "ValueError")=some true)
  (zB:findIn K (.ref bD) "__getattribute__"=some (some (.builtin "BaseException.__getattribute__")))
  (zC:findIn K (.ref bD) "__getattr__"=some none)
  (zD:findIn K (.ref bD) "__class__"=some (some (.builtin "object.__class__")))
  (zE:mroIn K bD (.type "object")=some true)
  (zF:mroIn K bD (.type "BaseException")=some true)
  (zG:mroIn K bD (.type "ValueError")=some true)
  (vP:aaM K WN "KIND_WORDS"=some (some (.ref iC)))
  (vQ:K.lookup iC=some ⟨.type "tuple",none,.seq #[XO "passing" qF,XO "lasting" qG] jX,r9⟩)
  (vR:aaM K WN "PART_WORDS"=some (some (.ref iD)))
  (mm:K.lookup iD=some ⟨.type "tuple",none,.seq #[XO "take" qH,XO "keep" qI,XO "look" qJ,XO "put" qK,XO "tell" qL] jY,sd⟩)
  (Ej:aaM K WN "COUNTS"=some (some (.ref qE)))
  (Ek:K.lookup qE=some ⟨.type "tuple",none,.seq #[XO "0" zu,XO "1" zw,XO "2" zx,XO "3" zy,XO "4" zz] tI,BP⟩)
  : ∃fd:Xk,(∀(s:Ws) (v:Wr),BindsTo s fd ⟨[v],[]⟩ [("_law_script",v)])∧∀base:Heap,K.In base→base.Ns WN mg→aU l.prog w K mg base fK 11 fa fd ["_law_script"] (Ag K):=by
 have e:=L9.symm.trans (mg_of X G Mv)
 cases e
 have MF:=yA (st:=lS) Mw Mx My
 have si:=j9.binds (ps:=["self","title","parts"]) fun _ _ _ _ _ _ us hl=>match us,hl with|[_,_,_],_=>rfl
 have qY:=fJ.binds (ps:=["self"]) fun _ _ _ _ _ _ us hl=>match us,hl with|[_],_=>rfl
 have sj:=ka.binds (ps:=["self","kinds","rules"]) fun _ _ _ _ _ _ us hl=>match us,hl with|[_,_,_],_=>rfl
 have kg:=kb.binds (ps:=["self","left","right"]) fun _ _ _ _ _ _ us hl=>match us,hl with|[_,_,_],_=>rfl
 have nz:=iZ x4 Eh Ei oN
 have mn:=iZ tM tN tO nu
 have lq:=iZ qV qW qX ml
 have mq:=iZ tQ tR tS nv
 have nD:=iZ tP B2 B3 oO
 have nE:=iZ tM tN tO oP
 have mr:=iZ qV qW qX ny
 have nF:=iZ tQ tR tS oQ
 have Ge:=mg_of X G FH
 have B6:=mg_of X G BQ
 have Gf:=mg_of X G FI
 have Gg:=mg_of X G FJ
 have cK:=mg_of X G BR
 have ye:=mg_of X G Eg
 have B7:=mg_of X G BS
 have zH:=mg_of X G zA
 have B8:=mg_of X G BU
 have vS:=mg_of X G vA
 have vT:=Xq X G vN
 have MG:=Xq X G Mz
 have Jo:=Xq X G Jm
 have MH:=Xq X G MA
 have vU:=Xq X G vO
 have fQ:=Xq X G MB
 have Jp:=Xq X G Jn
 have Gh:=Xq X G Gb
 have MI:=Xq X G MC
 have Gi:=Xq X G Gd
 have AM:=mg_of X G F9
 have AO:=mg_of X G Ga
 have Ca:=mg_of X G B4
 have Cb:=mg_of X G B5
 have vV:=mg_of X G vM
 have ou:=mg_of X G x5
 refine⟨Yg "law" "law" (gW lS) (eX lS) (av lS) .none Ec Ed Ee Eb zq Ef,fun s v=>.of_eq rfl,fun base _ _=>?_⟩
 have cl {x:Str} {k:Nat} {ps:List Str} {sp:Sp} {f:WA} {fd:Xk} {st:Stmt} (F:bP K x st f fd) (o:aU l.prog w K mg base fK k f fd ps sp) (b:AK ps x st):=Jh X G F o b
 have zI {x:Str} {k:Nat} {ps:List Str} {sp:Sp} {f:WA} {fd:Xk} {st:Stmt} (F:bP K x st f fd) (o:aU l.prog w K mg base (oz l.prog w) k f fd ps sp) (b:AK ps x st):=FF X G F o b
 let cc:Cl:=⟨dD,bV,bZ,dE⟩
 have El:PySem.W.ExcKit K bh:=⟨x6,x8,ya,MD,ME,yb,yc,tP⟩
 have Gj:PySem.W.ExcKit K bD:=⟨zB,zC,zD,MD,ME,zE,zF,x4⟩
 let Cs:Nat→WA:=fun n=>if n=1 then bh else if n=2 then bD else if n=3 then d8 else if n=4 then dh else d9
 have xP:∀n,1≤n→n≤2→YV K (.ref (Cs n)) (.ref fO)=some true:=fun n h1 h4=>by
  rcases(show n=1∨n=2 by omega) with rfl|rfl
  ·exact VN
  ·exact VO
 have ZZ:∀n,1≤n→n≤2→PySem.W.ExcKit K (Cs n):=fun n h1 h4=>by
  rcases(show n=1∨n=2 by omega) with rfl|rfl
  ·exact El
  ·exact Gj
 have kV:∀n,1≤n→n≤2→XI K (.ref (Cs n)) (.type "ValueError")=some true:=fun n h1 h4=>by
  rcases(show n=1∨n=2 by omega) with rfl|rfl
  ·exact AL yd
  ·exact AL zG
 have kI:∀n m,1≤n→n≤2→1≤m→m≤5→XI K (.ref (Cs n)) (.ref (Cs m))=some (n == m):=fun n m h1 h4 g1 g4=>by
  rcases(show n=1∨n=2 by omega) with rfl|rfl <;> rcases(show m=1∨m=2∨m=3∨m=4∨m=5 by omega) with rfl|rfl|rfl|rfl|rfl
  ·exact xg
  ·exact nz
  ·exact mn
  ·exact lq
  ·exact mq
  ·exact nD
  ·exact xg
  ·exact nE
  ·exact mr
  ·exact nF
 have Em:wX K cc.same:=⟨⟨FL,FN,FP,FQ⟩,xZ,vE⟩
 have yf:wX K cc.unlike:=⟨⟨BV,BW,BX,BY⟩,sh,qU⟩
 have iE:uo K cc.rule:=⟨⟨FV,FW,FX,FY⟩,vF,vG,x2,vH,vI,x3,vJ⟩
 have En:Il K cc.book:=⟨⟨F3,F4,F5,F6⟩,vK,vL⟩
 have vW:=aaD X G vP
 have sk:∀H:Hp,da K H iC [tx [112,97,115,115,105,110,103],tx [108,97,115,116,105,110,103]]:=fun H=>.inr ⟨_,_,jX,vQ,rfl,rfl,(by show 2≤Wt;decide),rfl,.cons (eE (by decide +kernel)) (.cons (eE (by decide +kernel)) (.nil))⟩
 have vX:=aaD X G vR
 have so:∀H:Hp,da K H iD [tx [116,97,107,101],tx [107,101,101,112],tx [108,111,111,107],tx [112,117,116],tx [116,101,108,108]]:=fun H=>.inr ⟨_,_,jY,mm,rfl,rfl,(by show 5≤Wt;decide),rfl,.cons (eE (by decide +kernel)) (.cons (eE (by decide +kernel)) (.cons (eE (by decide +kernel)) (.cons (eE (by decide +kernel)) (.cons (eE (by decide +kernel)) (.nil)))))⟩
 have Eo:=aaD X G Ej
 have Cc:∀H:Hp,da K H qE [tx [48],tx [49],tx [50],tx [51],tx [52]]:=fun H=>.inr ⟨_,_,tI,Ek,rfl,rfl,(by show 5≤Wt;decide),rfl,.cons (eE (by decide +kernel)) (.cons (eE (by decide +kernel)) (.cons (eE (by decide +kernel)) (.cons (eE (by decide +kernel)) (.cons (eE (by decide +kernel)) (.nil)))))⟩
 have cu:=cl jG (oE jG.2 AO ⟨vz,rfl⟩ AM ⟨vy,rfl⟩ Ca ⟨tG,rfl⟩) fun _ _ _ _ _ _=>b1 fun _=>rfl
 have cJ:=cl tJ (yW tJ.2 cu fQ MG Cb ⟨tH,rfl⟩) fun _ _ _ _ _ _=>b1 fun _=>rfl
 have bb:=cl iI (m6 iI.2 cJ AO ⟨vz,rfl⟩) fun _ _ _ _ _ _=>b1 fun _=>rfl
 have kY:=cl qO (xE qO.2 cu fQ) fun _ _ _ _ _ _=>b2 fun _ _=>rfl
 have bg:=cl qP (xG qP.2 fQ) fun _ _ _ _ _ _=>b2 fun _ _=>rfl
 have qr:=zI xX (BB xX.2 kY fQ cK aM) fun _ _ _ _ _ _=>b2 fun _ _=>rfl
 have fD:=zI jH (oF jH.2 bg cJ Gi cK aM) fun _ _ _ _ _ _=>b2 fun _ _=>rfl
 have m7:=zI tK (yX tK.2 bg bb fD cK aM) fun _ _ _ _ _ _=>b2 fun _ _=>rfl
 have fF:=zI jI (oG jI.2 m7 fQ cK aM) fun _ _ _ _ _ _=>b1 fun _=>rfl
 have m8:=cl tL (yY tL.2) fun _ _ _ _ _ _=>b1 fun _=>rfl
 have iy:=cl lZ (rB lZ.2 m8) fun _ _ _ _ _ _=>b1 fun _=>rfl
 have dB:=cl xY (BC xY.2) fun _ _ _ _ _ _=>b2 fun _ _=>rfl
 have dQ:=cl qQ (xI qQ.2 AM ⟨vy,rfl⟩) fun _ _ _ _ _ _=>b1 fun _=>rfl
 have ip:=cl l7 (rC l7.2 dQ Jp) fun _ _ _ _ _ _=>b1 fun _=>rfl
 have sq:aU l.prog w K mg base fK 3 _ _ ["self","title","parts"] (oZ K cc):=uL (c:=cc) j9 iE ip
 have zd:E1 l.prog w K mg base "Rule" bZ 3 ["self","title","parts"] (oZ K cc):=⟨_,_,⟨FZ,vC,sf,F0⟩,sq,si,Gf⟩
 have nh:Met l.prog w K mg base bZ "calls" 1 ["self"] (uq K cc):=⟨_,_,iE.cl,⟨se,qN,fJ.2⟩,rE (c:=cc) fJ iE fQ,qY⟩
 have sr:aU l.prog w K mg base fK 1 _ _ ["self","kinds","rules"] (o6 K cc):=uN (c:=cc) ka En
 have y7:E1 l.prog w K mg base "Book" dE 1 ["self","kinds","rules"] (o6 K cc):=⟨_,_,⟨F7,vD,sg,F8⟩,sr,sj,Gg⟩
 have gf:=cl j4 (qk j4.2 Jo fQ) fun _ _ _ _ _ _=>b2 fun _ _=>rfl
 have gh:=cl j5 (qm j5.2) fun _ _ _ _ _ _=>b2 fun _ _=>rfl
 have iu:=cl l8 (rF (c:=cc) l8.2 iE nh) fun _ _ _ _ _ _=>b2 fun _ _=>rfl
 have ir:=cl l9 (rG (c:=cc) l9.2 iE Em yf) fun _ _ _ _ _ _=>b1 fun _=>rfl
 have gj:=cl j6 (qo (c:=cc) j6.2 iE ir dQ) fun _ _ _ _ _ _=>b1 fun _=>rfl
 have iz:=cl ma (rH (c:=cc) ma.2 iE gf gh iu gj y7) fun _ _ _ _ _ _=>b2 fun _ _=>rfl
 have gm:=zI j7 (qq j7.2 qr vV ⟨lY,rfl⟩) fun _ _ _ _ _ _=>b1 fun _=>rfl
 have jB:=zI oa (uR oa.2 bb fQ MH cK aM vW sk Eo Cc) fun _ _ _ _ _ _=>b1 fun _=>rfl
 have bC:=zI fP (lb fP.2 cJ fQ cK aM) fun _ _ _ _ _ _=>b1 fun _=>rfl
 have kh:aU l.prog w K mg base fK 1 _ _ ["self","left","right"] (gZ K):=uW kb
 have y8:E1 l.prog w K mg base "Same" dD 1 ["self","left","right"] (gZ K):=⟨_,_,⟨FT,vB,jZ,FU⟩,kh,kg,Ge⟩
 have qt:E1 l.prog w K mg base "Unlike" bV 1 ["self","left","right"] (gZ K):=⟨_,_,⟨BZ,qM,jZ,B1⟩,kh,kg,B6⟩
 have jv:=zI og (uY (c:=cc) og.2 bC Em yf cK aM y8 qt) fun _ _ _ _ _ _=>b1 fun _=>rfl
 have jw:=zI oh (u6 oh.2 bC cK aM) fun _ _ _ _ _ _=>b1 fun _=>rfl
 have iw:=zI me (rK (c:=cc) me.2 dB jv) fun _ _ _ _ _ _=>b1 fun _=>rfl
 have ix:=zI mf (rM mf.2 dB jw) fun _ _ _ _ _ _=>b1 fun _=>rfl
 have jx:=zI oi (u9 (c:=cc) oi.2 iw ix fF) fun _ _ _ _ _ _=>b2 fun _ _=>rfl
 have jA:=zI oj (va (c:=cc) oj.2 bg bb dB cK aM jx ou ⟨jF,rfl⟩ vX so ⟨_,mm,rfl,rfl⟩) fun _ _ _ _ _ _=>b1 fun _=>rfl
 have jC:=zI om (vc (c:=cc) om.2 iE gm jA jB ye ph zd ou ⟨jF,rfl⟩) fun _ _ _ _ _ _=>b3 fun _ _ _=>rfl
 have jD:=zI oo (vd (c:=cc) oo.2 iy jC iz) fun _ _ _ _ _ _=>b1 fun _=>rfl
 have cw:=cl jJ (oI jJ.2 fQ) fun _ _ _ _ _ _=>b2 fun _ _=>rfl
 have dR:=cl qR (xK qR.2) fun _ _ _ _ _ _=>b2 fun _ _=>rfl
 have cU:=cl mh (rN mh.2 dR fQ Gh) fun _ _ _ _ _ _=>b3 fun _ _ _=>rfl
 have gp:=cl j8 (qy j8.2 cU) fun _ _ _ _ _ _=>b2 fun _ _=>rfl
 have iA:=cl mi (rP mi.2 cU) fun _ _ _ _ _ _=>b2 fun _ _=>rfl
 have eM:=cl iJ (ni iJ.2) fun _ _ _ _ _ _=>b2 fun _ _=>rfl
 have dS:=cl gM (lW gM.2) fun _ _ _ _ _ _=>b2 fun _ _=>rfl
 have eQ:=cl iK (nj iK.2) fun _ _ _ _ _ _=>b2 fun _ _=>rfl
 have lj:=cl qS (xM qS.2 eM dS eQ fQ) fun _ _ _ _ _ _=>b3 fun _ _ _=>rfl
 have jE:=cl oq (ve oq.2 lj fQ MI) fun _ _ _ _ _ _=>b5 fun _ _ _ _ _=>rfl
 have iB:=cl mj (rQ (c:=cc) (Cs:=Cs) mj.2 jD vU vT vS cK ye B7 zH B8 xP ZZ kI kV) fun _ _ _ _ _ _=>b1 fun _=>rfl
 exact Jf (c:=cc) MF En iE cw dR gp iA jE iB fQ
theorem walk {l:Z5} {q:WM} {loose:List Str} {XP:(Str→Option Wr)→Heap→Prop} {YP:Xj→Heap→Prop} {d:DefRec} {K:Params→Wo} (hn:l.most=some 63) (Kq:d.params.defaults=[])
  (hY:∀(w:Xj) (h:Heap),YP w h→(K w.params).In h)
  (F:∀(w:Xj) (mg:Str→Option Wr) (fa:WA) (h:Heap),(K w.params).In h→h.Ns WN mg→mg d.name=some (.ref fa) →
   ∃fd:Xk,(∀(s:Ws) (u:Wr),BindsTo s fd ⟨[u],[]⟩ [("_law_script",u)])∧∀base:Heap,(K w.params).In base→base.Ns WN mg→aU l.prog w (K w.params) mg base fK 11 fa fd ["_law_script"] (Ag (K w.params))) :
  PySem.W.WalkO q loose XP YP l.row.toRowW d [] (fun f vs=>PySem.call f vs) :=
 L2.ER (n:=63) (k:=11) (x:="_law_script") (CX:=fun _=>fK) (sp:=fun w=>Ag (K w.params)) hn (by decide) Kq ⟨rfl,by decide,by decide,rfl⟩ hY F (fun _ _ a ns hl _ hS=>⟨a,ns,rfl,hS,hl,fun _=>rfl⟩) fun _ _ _ _ _ z=>z
end iR
open PySem PySem.W PyProof.Rows
def PySem.W.Fast.tw5038225884776333297:Nat:=0
def PySem.W.Fast.tw17755843464448936784:Nat:=0
def PySem.W.Fast.tw8636904764839340017:Nat:=0
def PySem.W.Fast.tw10141906575951398631:Nat:=0
def PySem.W.Fast.tw9723728035423447210:Nat:=0
def PySem.W.Fast.tw4574903267933585949:Nat:=0
def PySem.W.Fast.tw2501902301256635858:Nat:=0
def PySem.W.Fast.tw6721531376269667042:Nat:=0
def PySem.W.Fast.tw17349858304368974702:Nat:=0
def PySem.W.Fast.tw4626351997800317680:Nat:=0
def PySem.W.Fast.tw14590346106506834583:Nat:=0
def PySem.W.Fast.tw264848389245465259:Nat:=0
def PySem.W.Fast.tw14381605960059960259:Nat:=0
def PySem.W.Fast.tw6930562121114829490:Nat:=0
def PySem.W.Fast.tw5519465841971720189:Nat:=0
def PySem.W.Fast.tw13367827901971826033:Nat:=0
def PySem.W.Fast.tw1557310992664506936:Nat:=0
def PySem.W.Fast.tw13430663869873845447:Nat:=0
def PySem.W.Fast.tw17472297616698007298:Nat:=0
def PySem.W.Fast.tw14043438795770922872:Nat:=0
def PySem.W.Fast.tw8519625533461111896:Nat:=0
def PySem.W.Fast.tw5051531432671896176:Nat:=0
def PySem.W.Fast.tw12864247266853335916:Nat:=0
def PySem.W.Fast.tw11881940919754678484:Nat:=0
def PySem.W.Fast.tw6654817676970026459:Nat:=0
def PySem.W.Fast.tw5682973815710760643:Nat:=0
def PySem.W.Fast.tw5679305971472653580:Nat:=0
def PySem.W.Fast.tw14801379263699276624:Nat:=0
def PySem.W.Fast.tw3534404924362790486:Nat:=0
def PySem.W.Fast.tw15528090493990995985:Nat:=0
def PySem.W.Fast.tw16539089575716311955:Nat:=0
def PySem.W.Fast.tw13678688206546618342:Nat:=0
def PySem.W.Fast.tw11629375635432328316:Nat:=0
def PySem.W.Fast.tw15493904101485679936:Nat:=0
def PySem.W.Fast.tw9423548907924681831:Nat:=0
def PySem.W.Fast.tw3270860788737330936:Nat:=0
def PySem.W.Fast.tw16273971259230967372:Nat:=0
def PySem.W.Fast.tw4387258396157205919:Nat:=0
def PySem.W.Fast.tw16423941419667102047:Nat:=0
def PySem.W.Fast.tw3162726655192292832:Nat:=0
def PySem.W.Fast.tw15530905708716389731:Nat:=0
def PySem.W.Fast.tw3861975831682405400:Nat:=0
def PySem.W.Fast.tw5969171233649610425:Nat:=0
def PySem.W.Fast.tw11213249663819215127:Nat:=0
def PySem.W.Fast.tw17207111089724355304:Nat:=0
def PySem.W.Fast.tw13935030463354758569:Nat:=0
def PySem.W.Fast.tw5402384577304160630:Nat:=0
def PySem.W.Fast.tw7415537802143243318:Nat:=0
def PySem.W.Fast.tw17030033092991424613:Nat:=0
def PySem.W.Fast.tw11051359182211431878:Nat:=0
def PySem.W.Fast.tw8529056692288917787:Nat:=0
def PySem.W.Fast.tw9964528962159924371:Nat:=0
def PySem.W.Fast.tw13585478310107997977:Nat:=0
def PySem.W.Fast.tw17111594641137179113:Nat:=0
def PySem.W.Fast.tw5041400131646692280:Nat:=0
def PySem.W.Fast.tw13131486944543943087:Nat:=0
def PySem.W.Fast.tw2469727481096899343:Nat:=0
def PySem.W.Fast.tw9861753290919309145:Nat:=0
def PySem.W.Fast.tw12185503623669805402:Nat:=0
def PySem.W.Fast.tw5033890219733179498:Nat:=0
def PySem.W.Fast.tw5220600347745680060:Nat:=0
def PySem.W.Fast.tw236910714620758106:Nat:=0
def PySem.W.Fast.tw18236644343659873549:Nat:=0
def PySem.W.Fast.tw6999500040462285201:Nat:=0
def PySem.W.Fast.tw12640684009193298541:Nat:=0
def PySem.W.Fast.tw2135256617711644794:Nat:=0
def PySem.W.Fast.tw5981612698705707193:Nat:=0
def PySem.W.Fast.tw13752572845404753657:Nat:=0
def PySem.W.Fast.tw16452119893714472885:Nat:=0
def PySem.W.Fast.tw256752889319553709:Nat:=0
def PySem.W.Fast.tw16107472903165527527:Nat:=0
def PySem.W.Fast.tw18424163060882804286:Nat:=0
def PySem.W.Fast.tw16323179560564819523:Nat:=0
def PySem.W.Fast.tw17422712861074067400:Nat:=0
def PySem.W.Fast.tw3307351433013777940:Nat:=0
def PySem.W.Fast.tw6010421950318425698:Nat:=0
def PySem.W.Fast.tw4625196248785856007:Nat:=0
def PySem.W.Fast.tw15196684789958711807:Nat:=0
def PySem.W.Fast.tw8985903383658839145:Nat:=0
def PySem.W.Fast.tw10385051449333245511:Nat:=0
def PySem.W.Fast.tw5849866460245685358:Nat:=0
def PySem.W.Fast.tw6025333269715410192:Nat:=0
def PySem.W.Fast.tw3265594582303673412:Nat:=0
def PySem.W.Fast.tw17292152284062358601:Nat:=0
def PySem.W.Fast.tw15631168770567917740:Nat:=0
def PySem.W.Fast.tw7079589042161528259:Nat:=0
def PySem.W.Fast.tw17084744080435984919:Nat:=0
def PySem.W.Fast.tw15262286705903869347:Nat:=0
def PySem.W.Fast.tw10348987411172013801:Nat:=0
def PySem.W.Fast.tw12082162730144916600:Nat:=0
def PySem.W.Fast.tw6827747037439307306:Nat:=0
def PySem.W.Fast.tw16768731523703552719:Nat:=0
def PySem.W.Fast.tw6420538627272086815:Nat:=0
def PySem.W.Fast.tw9470190618867686787:Nat:=0
def PySem.W.Fast.tw12138427914122112917:Nat:=0
def PySem.W.Fast.tw7962095457283178888:Nat:=0
def PySem.W.Fast.tw2614763205702611063:Nat:=0
def PySem.W.Fast.tw3535244248475553994:Nat:=0
def PySem.W.Fast.tw5638857401612454405:Nat:=0
def PySem.W.Fast.tw12194907922693247560:Nat:=0
def PySem.W.Fast.tw4572397888479671868:Nat:=0
def PySem.W.Fast.tw12967964377047771049:Nat:=0
def PySem.W.Fast.tw14305968776434610015:Nat:=0
def PySem.W.Fast.tw7122221886078726670:Nat:=0
def PySem.W.Fast.tw13418296695733419292:Nat:=0
def PySem.W.Fast.tw1171950988204224154:Nat:=0
def PySem.W.Fast.tw6848422368171978990:Nat:=0
def PySem.W.Fast.tw13857341274479051049:Nat:=0
def PySem.W.Fast.tw13460606988667056441:Nat:=0
def PySem.W.Fast.tw8782776692328104179:Nat:=0
def PySem.W.Fast.tw6812203475766603596:Nat:=0
def PySem.W.Fast.tw5131244851083158344:Nat:=0
def PySem.W.Fast.tw533679175683951634:Nat:=0
def PySem.W.Fast.tw6729124955545353317:Nat:=0
def PySem.W.Fast.tw15835606134524020465:Nat:=0
def PySem.W.Fast.tw9504747509647439467:Nat:=0
def PySem.W.Fast.tw12860296291227289483:Nat:=0
def PySem.W.Fast.tw16076001556895963968:Nat:=0
def PySem.W.Fast.tw14744246464891375671:Nat:=0
def PySem.W.Fast.tw7604101430009875343:Nat:=0
def PySem.W.Fast.tw8172309381888411335:Nat:=0
def PySem.W.Fast.tw6509488504189298784:Nat:=0
def PySem.W.Fast.tw8885883688047889019:Nat:=0
def PySem.W.Fast.tw12523965130941582064:Nat:=0
def PySem.W.Fast.tw3716813947194623039:Nat:=0
def PySem.W.Fast.tw3772060805122333154:Nat:=0
def PySem.W.Fast.tw11725640321656872245:Nat:=0
def PySem.W.Fast.tw12321284420662558615:Nat:=0
def PySem.W.Fast.tw12705623733400964123:Nat:=0
def PySem.W.Fast.tw14982006489756226294:Nat:=0
def PySem.W.Fast.tw9772640793496208761:Nat:=0
def PySem.W.Fast.tw4563539377353418261:Nat:=0
def PySem.W.Fast.tw15564512960034211911:Nat:=0
def PySem.W.Fast.tw4565918321353129102:Nat:=0
def PySem.W.Fast.tw9331256643362881678:Nat:=0
def PySem.W.Fast.tw18039684060066348130:Nat:=0
def PySem.W.Fast.tw7699573366898013333:Nat:=0
def PySem.W.Fast.tw11250490506455522779:Nat:=0
def PySem.W.Fast.tw9441148184842350850:Nat:=0
def PySem.W.Fast.tw6382774860744112115:Nat:=0
def PySem.W.Fast.tw5882895913235672815:Nat:=0
def PySem.W.Fast.tw1570286468645818401:Nat:=0
def PySem.W.Fast.tw4803266128014958828:Nat:=0
def PySem.W.Fast.tw10498293164934522532:Nat:=0
def PySem.W.Fast.tw3912296903499209292:Nat:=0
def PySem.W.Fast.tw5260512979025287100:Nat:=0
def PySem.W.Fast.tw3940139842976052993:Nat:=0
def PySem.W.Fast.tw1044416855710006567:Nat:=0
def PySem.W.Fast.tw3963859287774922581:Nat:=0
def PySem.W.Fast.tw6269857621161341697:Nat:=0
def PySem.W.Fast.tw16341051411470120460:Nat:=0
def PySem.W.Fast.tw16334576785801786757:Nat:=0
def PySem.W.Fast.tw2336568149605161000:Nat:=0
def PySem.W.Fast.tw11626012741803512849:Nat:=0
def PySem.W.Fast.tw14343540212796288303:Nat:=0
def PySem.W.Fast.tw1545084878364158499:Nat:=0
def PySem.W.Fast.tw9602890329050576690:Nat:=0
def PySem.W.Fast.tw14729463552807680710:Nat:=0
def PySem.W.Fast.tw8897561247678336634:Nat:=0
def PySem.W.Fast.tw1299220344669163933:Nat:=0
def PySem.W.Fast.tw5001381265633586804:Nat:=0
def PySem.W.Fast.tw7568170510613339023:Nat:=0
def PySem.W.Fast.tw11461666709836705177:Nat:=0
def PySem.W.Fast.tw7346118995477669729:Nat:=0
def PySem.W.Fast.tw17430154507758508894:Nat:=0
def PySem.W.Fast.tw6380030456719596633:Nat:=0
def PySem.W.Fast.tw16088119449848870890:Nat:=0
def PySem.W.Fast.tw13935117222915386972:Nat:=0
def PySem.W.Fast.tw13508619992392521538:Nat:=0
def PySem.W.Fast.tw2820840031683165079:Nat:=0
def PySem.W.Fast.tw14151667307388625388:Nat:=0
def PySem.W.Fast.tw4955664471611649780:Nat:=0
def PySem.W.Fast.tw15755889274573902093:Nat:=0
def PySem.W.Fast.tw15641380298034803121:Nat:=0
def PySem.W.Fast.tw13938820946020415261:Nat:=0
def PySem.W.Fast.tw2408117787554301183:Nat:=0
def PySem.W.Fast.tw6929094314106175351:Nat:=0
def PySem.W.Fast.tw5090453894478283261:Nat:=0
def PySem.W.Fast.tw11267010053724880932:Nat:=0
def PySem.W.Fast.tw9974408130874195453:Nat:=0
def PySem.W.Fast.tw2859154958524438962:Nat:=0
def PySem.W.Fast.tw13400838629687468740:Nat:=0
def PySem.W.Fast.tw9867523083285301782:Nat:=0
def PySem.W.Fast.tw13674119818814799889:Nat:=0
def PySem.W.Fast.tw10050807280441269166:Nat:=0
def PySem.W.Fast.tw7473773508466721784:Nat:=0
def PySem.W.Fast.tw12521711640759847570:Nat:=0
def PySem.W.Fast.tw656001562008245393:Nat:=0
def PySem.W.Fast.tw4402357408120349172:Nat:=0
def PySem.W.Fast.tw3480104547710954577:Nat:=0
def PySem.W.Fast.tw9753964355058659898:Nat:=0
def PySem.W.Fast.tw13681432117152418622:Nat:=0
def PySem.W.Fast.tw2376916215234770654:Nat:=0
def PySem.W.Fast.tw10554998620572586920:Nat:=0
def PySem.W.Fast.tw8035830271716876472:Nat:=0
def PySem.W.Fast.tw4010459041546503862:Nat:=0
def PySem.W.Fast.tw15338950855209263064:Nat:=0
def PySem.W.Fast.tw17250198415640292305:Nat:=0
def PySem.W.Fast.tw2073499555851440704:Nat:=0
def PySem.W.Fast.tw17679621994900061879:Nat:=0
def PySem.W.Fast.tw10940541991115169821:Nat:=0
def PySem.W.Fast.tw5266021281984433143:Nat:=0
def PySem.W.Fast.tw3346995216946413617:Nat:=0
def PySem.W.Fast.tw2118322613012229524:Nat:=0
def PySem.W.Fast.tw13010132413787425877:Nat:=0
def PySem.W.Fast.tw10957001087712402217:Nat:=0
def PySem.W.Fast.tw2754242135807221017:Nat:=0
def PySem.W.Fast.tw718678537869097632:Nat:=0
def PySem.W.Fast.tw4380152229392036117:Nat:=0
def PySem.W.Fast.tw13117568191055229763:Nat:=0
def PySem.W.Fast.tw16100731316000014001:Nat:=0
def PySem.W.Fast.tw12374074048528165962:Nat:=0
def PySem.W.Fast.tw12112884711084118188:Nat:=0
def PySem.W.Fast.tw14564689921284256006:Nat:=0
def PySem.W.Fast.tw7420085162718924658:Nat:=0
def PySem.W.Fast.tw7836299262483246851:Nat:=0
def PySem.W.Fast.tw133547450382720689:Nat:=0
def PySem.W.Fast.tw8100184708818897992:Nat:=0
def PySem.W.Fast.tw15891585014273259870:Nat:=0
def PySem.W.Fast.tw7514417683398417701:Nat:=0
def PySem.W.Fast.tw3363033369950377399:Nat:=0
def PySem.W.Fast.tw5606461020210391460:Nat:=0
def PySem.W.Fast.tw15051358456333507929:Nat:=0
def PySem.W.Fast.tw6379558479673135611:Nat:=0
def PySem.W.Fast.tw14715551912058795410:Nat:=0
def PySem.W.Fast.tw8328638742911066557:Nat:=0
def PySem.W.Fast.tw2190939837008409042:Nat:=0
def PySem.W.Fast.tw4188880746827293638:Nat:=0
def PySem.W.Fast.tw6302873614627525512:Nat:=0
def PySem.W.Fast.tw7246955275275658386:Nat:=0
def PySem.W.Fast.tw5144619826623447287:Nat:=0
def PySem.W.Fast.tw12058998239901521902:Nat:=0
def PySem.W.Fast.tw14026763091294565214:Nat:=0
def PySem.W.Fast.tw18287863043426357740:Nat:=0
def PySem.W.Fast.tw12087494065136329480:Nat:=0
def PySem.W.Fast.tw10938890763273975476:Nat:=0
def PySem.W.Fast.tw13592198179664341751:Nat:=0
def PySem.W.Fast.tw17172252960398172151:Nat:=0
def PySem.W.Fast.tw2867647974117002888:Nat:=0
def PySem.W.Fast.tw8261970460835444993:Nat:=0
def PySem.W.Fast.tw11552946094523905127:Nat:=0
def PySem.W.Fast.tw303728617882081396:Nat:=0
def PySem.W.Fast.tw7476593736746881903:Nat:=0
def PySem.W.Fast.tw4413703170878547593:Nat:=0
def PySem.W.Fast.tw562762683911723402:Nat:=0
def PySem.W.Fast.tw14008003317498844446:Nat:=0
def PySem.W.Fast.tw1141021397535000744:Nat:=0
def PySem.W.Fast.tw14976867163552847851:Nat:=0
def PySem.W.Fast.tw3637182362056108016:Nat:=0
def PySem.W.Fast.tw11946357578059090654:Nat:=0
def PySem.W.Fast.tw10057675948437991659:Nat:=0
def PySem.W.Fast.tw15091580167712608119:Nat:=0
def PySem.W.Fast.tw16006285843540275916:Nat:=0
def PySem.W.Fast.tw17748230064956189129:Nat:=0
def PySem.W.Fast.tw5664414452172842498:Nat:=0
def PySem.W.Fast.tw2083659018751572658:Nat:=0
def PySem.W.Fast.tw12816127866153227934:Nat:=0
def PySem.W.Fast.tw15288140429296169729:Nat:=0
def PySem.W.Fast.tw9280944109924439417:Nat:=0
def PySem.W.Fast.tw8360515173967927804:Nat:=0
def PySem.W.Fast.tw1266355014360210189:Nat:=0
def PySem.W.Fast.tw11612012627605452361:Nat:=0
def PySem.W.Fast.tw16377052276820979193:Nat:=0
def PySem.W.Fast.tw6094157370294339925:Nat:=0
def PySem.W.Fast.tw14580813451673305865:Nat:=0
def PySem.W.Fast.tw11907122989376948153:Nat:=0
def PySem.W.Fast.tw11191361536520952936:Nat:=0
def PySem.W.Fast.tw2524420902767818670:Nat:=0
def PySem.W.Fast.tw17368766827097175574:Nat:=0
def PySem.W.Fast.tw15036666812336389438:Nat:=0
def PySem.W.Fast.tw7845990557118397343:Nat:=0
def PySem.W.Fast.tw17760157899133824856:Nat:=0
def PySem.W.Fast.tw4713357207978481560:Nat:=0
def PySem.W.Fast.tw4426493886645196281:Nat:=0
def PySem.W.Fast.tw17058003969378968400:Nat:=0
def PySem.W.Fast.tw17630383887419996729:Nat:=0
def PySem.W.Fast.tw9622993043025656883:Nat:=0
def PySem.W.Fast.tw17645664228490515950:Nat:=0
def PySem.W.Fast.tw5995752977110314295:Nat:=0
def PySem.W.Fast.tw3852203119024338882:Nat:=0
def PySem.W.Fast.tw11234629737573422260:Nat:=0
def PySem.W.Fast.tw12298540003311034280:Nat:=0
def PySem.W.Fast.tw14994112527555607372:Nat:=0
def PySem.W.Fast.tw6951666266819160201:Nat:=0
def PySem.W.Fast.tw15463751822795184675:Nat:=0
def PySem.W.Fast.tw3678779000576499292:Nat:=0
def PySem.W.Fast.tw5412106651450132198:Nat:=0
def PySem.W.Fast.tw17431635141999905741:Nat:=0
def PySem.W.Fast.tw12662879226982926142:Nat:=0
def PySem.W.Fast.tw3779592263718309565:Nat:=0
def PySem.W.Fast.tw2303057486345634573:Nat:=0
def PySem.W.Fast.tw5976745677018098031:Nat:=0
def PySem.W.Fast.tw1427804324796476131:Nat:=0
def PySem.W.Fast.tw8737503363723535348:Nat:=0
def PySem.W.Fast.tw414416676842138298:Nat:=0
def PySem.W.Fast.tw4946856251577640104:Nat:=0
def PySem.W.Fast.tw15710914123658976531:Nat:=0
def PySem.W.Fast.tw11848352261504314898:Nat:=0
def PySem.W.Fast.tw16912835183543121426:Nat:=0
def PySem.W.Fast.tw6130137847258545918:Nat:=0
def PySem.W.Fast.tw2968546828112160120:Nat:=0
def PySem.W.Fast.tw16199534766911681633:Nat:=0
def PySem.W.Fast.tw8255700648806786406:Nat:=0
def PySem.W.Fast.tw14202867355691657968:Nat:=0
def PySem.W.Fast.tw8940095945204869177:Nat:=0
def PySem.W.Fast.tw11815849947916412697:Nat:=0
def PySem.W.Fast.tw4928430758242400936:Nat:=0
def PySem.W.Fast.tw16973320459232342899:Nat:=0
def PySem.W.Fast.tw1654412821869166830:Nat:=0
def PySem.W.Fast.tw16573377340294584208:Nat:=0
def PySem.W.Fast.tw12994524708912494427:Nat:=0
def PySem.W.Fast.tw13887162064249119988:Nat:=0
def PySem.W.Fast.tw2832946972223642360:Nat:=0
def PySem.W.Fast.tw15844540239973862269:Nat:=0
def PySem.W.Fast.tw8167726321072650066:Nat:=0
def PySem.W.Fast.tw6505837399972472544:Nat:=0
def PySem.W.Fast.tw4677969567813356861:Nat:=0
def PySem.W.Fast.tw11222488658801452462:Nat:=0
def PySem.W.Fast.tw16069256559599742323:Nat:=0
def PySem.W.Fast.tw5703837727812853251:Nat:=0
def PySem.W.Fast.tw8408419282367918332:Nat:=0
def PySem.W.Fast.tw8956403367770588319:Nat:=0
def PySem.W.Fast.tw11728783670028765392:Nat:=0
def PySem.W.Fast.tw13621723146782622139:Nat:=0
def PySem.W.Fast.tw8612258360516837602:Nat:=0
def PySem.W.Fast.tw10450901078278774396:Nat:=0
def PySem.W.Fast.tw16085186676422403414:Nat:=0
def PySem.W.Fast.tw13076195002406324288:Nat:=0
def PySem.W.Fast.tw4501720418617662591:Nat:=0
def PySem.W.Fast.tw7498391511240681200:Nat:=0
def PySem.W.Fast.tw12334900384106013349:Nat:=0
def PySem.W.Fast.tw17769626676506311162:Nat:=0
def PySem.W.Fast.tw527955504011035429:Nat:=0
def PySem.W.Fast.tw14995764748097456582:Nat:=0
def PySem.W.Fast.tw17696372426819870241:Nat:=0
def PySem.W.Fast.tw16903671747429124809:Nat:=0
def PySem.W.Fast.tw15055921339673815204:Nat:=0
def PySem.W.Fast.tw16665373663425300720:Nat:=0
def PySem.W.Fast.tw3654454168935138215:Nat:=0
def PySem.W.Fast.tw6648083105122307345:Nat:=0
def PySem.W.Fast.tw13185340935697501239:Nat:=0
def PySem.W.Fast.tw15263726728367250213:Nat:=0
def PySem.W.Fast.tw1287862121672570900:Nat:=0
def PySem.W.Fast.tw9361331454780632188:Nat:=0
def PySem.W.Fast.tw17384317308826476024:Nat:=0
def PySem.W.Fast.tw12964987159491796344:Nat:=0
def PySem.W.Fast.tw11271758583811926494:Nat:=0
def PySem.W.Fast.tw1319330766362326861:Nat:=0
def PySem.W.Fast.tw13788416587045923859:Nat:=0
def PySem.W.Fast.tw6466380250748417277:Nat:=0
def PySem.W.Fast.tw18269563624164340867:Nat:=0
def PySem.W.Fast.tw16325933828597160285:Nat:=0
def PySem.W.Fast.tw11148399667170841999:Nat:=0
def PySem.W.Fast.tw958575054494426604:Nat:=0
def PySem.W.Fast.tw14508090014452075162:Nat:=0
def PySem.W.Fast.tw11183919812526746385:Nat:=0
def PySem.W.Fast.tw10949124923220751361:Nat:=0
def PySem.W.Fast.tw11532258115772622307:Nat:=0
def PySem.W.Fast.tw7761640645285847029:Nat:=0
def PySem.W.Fast.tw352922349099816849:Nat:=0
def PySem.W.Fast.tw6760538349644100176:Nat:=0
def PySem.W.Fast.tw3158598413304497398:Nat:=0
def PySem.W.Fast.tw4297166832233840264:Nat:=0
def PySem.W.Fast.tw5493340964313270560:Nat:=0
def PySem.W.Fast.tw654016797023925441:Nat:=0
def PySem.W.Fast.tw12817182999179674699:Nat:=0
def PySem.W.Fast.tw5106007949960602840:Nat:=0
def PySem.W.Fast.tw13935050376735259706:Nat:=0
def PySem.W.Fast.tw16617892260236679436:Nat:=0
def PySem.W.Fast.tw13435400581057341757:Nat:=0
def PySem.W.Fast.tw14904200173867157596:Nat:=0
def PySem.W.Fast.tw6002541783761327218:Nat:=0
def PySem.W.Fast.tw3816921951397415211:Nat:=0
def PySem.W.Fast.tw13150494872635645170:Nat:=0
def PySem.W.Fast.tw12002690335390910391:Nat:=0
def PySem.W.Fast.tw12925488710966346641:Nat:=0
def PySem.W.Fast.tw192917322002826462:Nat:=0
def PySem.W.Fast.tw10247658257405845602:Nat:=0
def PySem.W.Fast.tw6057564172244346332:Nat:=0
def PySem.W.Fast.tw275934702972904937:Nat:=0
def PySem.W.Fast.tw1181448704467921905:Nat:=0
def PySem.W.Fast.tw1016150288949505671:Nat:=0
def PySem.W.Fast.tw7119352302525188169:Nat:=0
def PySem.W.Fast.tw2182889024180527059:Nat:=0
def PySem.W.Fast.tw7726448845054494070:Nat:=0
def PySem.W.Fast.tw7254888617108991405:Nat:=0
def PySem.W.Fast.tw13134419487295419695:Nat:=0
def PySem.W.Fast.tw17415593830050277826:Nat:=0
def PySem.W.Fast.tw14473314986780204321:Nat:=0
def PySem.W.Fast.tw13443685029471731623:Nat:=0
def PySem.W.Fast.tw16984316214099330048:Nat:=0
def PySem.W.Fast.tw9118275201827869859:Nat:=0
def PySem.W.Fast.tw7090584516840264063:Nat:=0
def PySem.W.Fast.tw1954116479502177981:Nat:=0
def PySem.W.Fast.tw5310920033136986034:Nat:=0
def PySem.W.Fast.tw6293515894078320872:Nat:=0
def PySem.W.Fast.tw2758543081499828524:Nat:=0
def PySem.W.Fast.tw2941381729527507869:Nat:=0
def PySem.W.Fast.tw3015724606746651342:Nat:=0
def PySem.W.Fast.tw4404394718881610549:Nat:=0
def PySem.W.Fast.tw3028037304014962221:Nat:=0
def PySem.W.Fast.tw16589517968380754994:Nat:=0
def PySem.W.Fast.tw1019977438085944907:Nat:=0
def PySem.W.Fast.tw11227931647495593242:Nat:=0
def PySem.W.Fast.tw5246316990527855502:Nat:=0
def PySem.W.Fast.tw5624261315488666538:Nat:=0
def PySem.W.Fast.tw12484228904033655217:Nat:=0
def PySem.W.Fast.tw13286708616839821820:Nat:=0
def PySem.W.Fast.tw12102436561563181936:Nat:=0
def PySem.W.Fast.tw5306600427211524566:Nat:=0
def PySem.W.Fast.tw6384364561063384267:Nat:=0
def PySem.W.Fast.tw13055938132444241987:Nat:=0
def PySem.W.Fast.tw1819056826454257690:Nat:=0
def PySem.W.Fast.tw9436682292119158168:Nat:=0
def PySem.W.Fast.tw7280383395516495820:Nat:=0
def PySem.W.Fast.tw4328699458467014015:Nat:=0
def PySem.W.Fast.tw2874225652495255889:Nat:=0
def PySem.W.Fast.tw15579329739786057273:Nat:=0
def PySem.W.Fast.tw6530971633939614332:Nat:=0
def PySem.W.Fast.tw17033055360522131060:Nat:=0
def PySem.W.Fast.tw17463962567992448271:Nat:=0
def PySem.W.Fast.tw8191026863980326002:Nat:=0
def PySem.W.Fast.tw3305589523940485256:Nat:=0
def PySem.W.Fast.tw15356999516922731389:Nat:=0
def PySem.W.Fast.tw10362120100537432985:Nat:=0
def PySem.W.Fast.tw8084950519537334388:Nat:=0
def PySem.W.Fast.tw836627896176808273:Nat:=0
def PySem.W.Fast.tw742247507655039544:Nat:=0
def PySem.W.Fast.tw15249397983837957291:Nat:=0
def PySem.W.Fast.tw16338747336589731313:Nat:=0
def PySem.W.Fast.tw2179832042475329940:Nat:=0
def PySem.W.Fast.tw5431696281969234926:Nat:=0
def PySem.W.Fast.tw16305365464251784213:Nat:=0
def PySem.W.Fast.tw2758233502205581685:Nat:=0
def PySem.W.Fast.tw9346223937869428992:Nat:=0
def PySem.W.Fast.tw6610885075366684900:Nat:=0
def PySem.W.Fast.tw10383857193118023920:Nat:=0
def PySem.W.Fast.tw16368336161333861532:Nat:=0
def PySem.W.Fast.tw5666725644486793856:Nat:=0
def PySem.W.Fast.tw8819735797428870902:Nat:=0
def PySem.W.Fast.tw11429704680988654921:Nat:=0
def PySem.W.Fast.tw12988982214599227190:Nat:=0
def PySem.W.Fast.tw11651166440015165731:Nat:=0
def PySem.W.Fast.tw5687350755747098125:Nat:=0
def PySem.W.Fast.tw6395579285335485532:Nat:=0
def PySem.W.Fast.tw12254035277488374069:Nat:=0
def PySem.W.Fast.tw12773441149263764740:Nat:=0
def PySem.W.Fast.tw1533108328180189188:Nat:=0
def PySem.W.Fast.tw16823494409673761591:Nat:=0
def PySem.W.Fast.tw10200439244021936276:Nat:=0
def PySem.W.Fast.tw948691832909217026:Nat:=0
def PySem.W.Fast.tw5910807591801534967:Nat:=0
def PySem.W.Fast.tw727108449639364011:Nat:=0
def PySem.W.Fast.tw17192142542140611075:Nat:=0
def PySem.W.Fast.tw1580181303443869078:Nat:=0
def PySem.W.Fast.tw18133734502256831863:Nat:=0
def PySem.W.Fast.tw9165518910031005750:Nat:=0
def PySem.W.Fast.tw7465917487856836866:Nat:=0
def PySem.W.Fast.tw14892012232614322017:Nat:=0
def PySem.W.Fast.tw3171746803213277129:Nat:=0
def PySem.W.Fast.tw5527758593327719970:Nat:=0
def PySem.W.Fast.tw14870006939293125644:Nat:=0
def PySem.W.Fast.tw9138067724425674609:Nat:=0
def PySem.W.Fast.tw12640546567552371610:Nat:=0
def PySem.W.Fast.tw3656380253833347838:Nat:=0
def PySem.W.Fast.tw2775821959530329025:Nat:=0
def PySem.W.Fast.tw4713278573941121820:Nat:=0
def PySem.W.Fast.tw15552507059344252448:Nat:=0
def PySem.W.Fast.tw8662156422228161373:Nat:=0
def PySem.W.Fast.tw7870750524452688986:Nat:=0
def PySem.W.Fast.tw8793392195311818001:Nat:=0
def PySem.W.Fast.tw9971480365829176918:Nat:=0
def PySem.W.Fast.tw14357208852284887755:Nat:=0
def PySem.W.Fast.tw14043574950377048717:Nat:=0
def PySem.W.Fast.tw3420867057403233067:Nat:=0
def PySem.W.Fast.tw277763159149228132:Nat:=0
def PySem.W.Fast.tw18408086287028891605:Nat:=0
def PySem.W.Fast.tw8658866222523659848:Nat:=0
def PySem.W.Fast.tw4259539552822521655:Nat:=0
def PySem.W.Fast.tw13784121337502814480:Nat:=0
def PySem.W.Fast.tw8555040349639711679:Nat:=0
def PySem.W.Fast.tw15563864129400922427:Nat:=0
def PySem.W.Fast.tw1021078904390678954:Nat:=0
def PySem.W.Fast.tw3616971037368228976:Nat:=0
def PySem.W.Fast.tw9127459943395673322:Nat:=0
def PySem.W.Fast.tw499522362641298940:Nat:=0
def PySem.W.Fast.tw9589308618442182117:Nat:=0
def PySem.W.Fast.tw12724744813346504473:Nat:=0
def PySem.W.Fast.tw10267907554744693994:Nat:=0
def PySem.W.Fast.tw1045984166855207202:Nat:=0
def PySem.W.Fast.tw10046595328935234124:Nat:=0
def PySem.W.Fast.tw9977494273253041043:Nat:=0
def PySem.W.Fast.tw4319086573279739857:Nat:=0
def PySem.W.Fast.tw4463888797020521295:Nat:=0
def PySem.W.Fast.tw12381761746216709665:Nat:=0
def PySem.W.Fast.tw16945511483166993280:Nat:=0
def PySem.W.Fast.tw504454865875741473:Nat:=0
def PySem.W.Fast.tw14120774730139839194:Nat:=0
def PySem.W.Fast.tw10460699992584456744:Nat:=0
def PySem.W.Fast.tw17626760705913655225:Nat:=0
def PySem.W.Fast.tw12046371027008063516:Nat:=0
def PySem.W.Fast.tw18335228214352011338:Nat:=0
def PySem.W.Fast.tw10543615852659795146:Nat:=0
def PySem.W.Fast.tw17155481813009631439:Nat:=0
def PySem.W.Fast.tw9779024257975845777:Nat:=0
def PySem.W.Fast.tw8968409833781145491:Nat:=0
def PySem.W.Fast.tw13086020919482491142:Nat:=0
def PySem.W.Fast.tw16198402973894465046:Nat:=0
def PySem.W.Fast.tw9809634305344313564:Nat:=0
def PySem.W.Fast.tw14068569285828176091:Nat:=0
def PySem.W.Fast.tw11759906455706757092:Nat:=0
def PySem.W.Fast.tw15500179757267158530:Nat:=0
def PySem.W.Fast.tw12367587519614061487:Nat:=0
def PySem.W.Fast.tw914530338930383038:Nat:=0
def PySem.W.Fast.tw9714154417549412156:Nat:=0
def PySem.W.Fast.tw4987579448401369658:Nat:=0
def PySem.W.Fast.tw4094853556427305993:Nat:=0
def PySem.W.Fast.tw12771179474900979589:Nat:=0
def PySem.W.Fast.tw13367435777899632784:Nat:=0
def PySem.W.Fast.tw5141251650585013988:Nat:=0
def PySem.W.Fast.tw14643782221020568176:Nat:=0
def PySem.W.Fast.tw8629237157503178497:Nat:=0
def PySem.W.Fast.tw15985556233497497437:Nat:=0
def PySem.W.Fast.tw15569017849826012262:Nat:=0
def PySem.W.Fast.tw7347664819094668647:Nat:=0
def PySem.W.Fast.tw8766032644118664393:Nat:=0
def PySem.W.Fast.tw2750325772533531717:Nat:=0
def PySem.W.Fast.tw17727565888386434609:Nat:=0
def PySem.W.Fast.tw10706239280241975079:Nat:=0
def PySem.W.Fast.tw17869546624892120402:Nat:=0
def PySem.W.Fast.tw92887873404505526:Nat:=0
def PySem.W.Fast.tw6632006603755584342:Nat:=0
def PySem.W.Fast.tw17207042450082514398:Nat:=0
def PySem.W.Fast.tw14697189336760685636:Nat:=0
def PySem.W.Fast.tw8448370360173782636:Nat:=0
def PySem.W.Fast.tw4135759436704367525:Nat:=0
set_option maxRecDepth 100000 in
set_option maxHeartbeats 0 in
theorem PySem.Challenge.cw_poolrules_k12_lines_refused_holds : PySem.Challenge.rw_poolrules_k12_lines_refused.Holds := by
 w_on;o_law;k_head;(case hw=>w_witness2)
 k_fill
 refine iR.walk (l:=PySem.Challenge.rw_poolrules_k12_lines_refused) rfl rfl (fun w h Y=>PySem.W.kIn_of Y) ?F
 case F =>
  intro w mg fa h KX G hmg
  refine' iR.all_mk KX G hmg ..
  all_goals first|k_is|exact L2.yA (by k_is) (by k_is) (by k_is)|exact⟨by k_is,L2.yA (by k_is) (by k_is) (by k_is)⟩|k_exc|kts_exm|skip
