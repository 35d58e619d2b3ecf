import PyProof.Rows.All
import Wide.All
import OpenK.AllK
import Wide.FinOn
import PyProof.EqAt
import PyProof.EqKinds
import PyProof.TupleCall
import PyProof.EnumFor
import PyProof.EnumStmt
import PyProof.EnumMake
import PyProof.StrOps2
import PyProof.DictWalks
import PyProof.DictItems
import KE.KPairComp
import PyProof.ZipIter
import PyProof.SumWalkG
import PyProof.IsiPairs
import PyProof.DictRoadsH
import PyProof.Rows.TupTab
import KE.KDictList
import KE.KDictOf
import KE.KSortAsk
import KE.KSortTup
import PyProof.SetRoads
import KE.KTryMore
import KE.KIsNot
import PySem.Challenge.RW_poolrules_k07_whole_changes
set_option Elab.async false
set_option linter.all false
namespace PySem.W.Fast
def tw4923775978605961176:=True
def tw7914629319737174474:=True
def tw1650292864405380205:=True
def tw5803328160012485082:=True
def tw340502684604638922:=True
def tw17507781981983281118:=True
def tw12565553200736530705:=True
def tw5210665103747754075:=True
def tw11747528615810604665:=True
def tw8991970209487931750:=True
def tw11357147475931776242:=True
def tw13887421739126442933:=True
def tw1887542999198136763:=True
def tw5395910001740735175:=True
def tw16487760598787912551:=True
def tw16594324672732226591:=True
def tw3759377806439456454:=True
def tw9796687314235541119:=True
def tw7504810691096748401:=True
def tw5838207243737512757:=True
def tw11578834010299314185:=True
def tw10272606364391031365:=True
def tw15568697854911571868:=True
def tw1325489056024314649:=True
def tw2721271733128889414:=True
def tw14640803904053917046:=True
def tw18024393383655944986:=True
def tw17975310527696472052:=True
def tw8987025455324215856:=True
def tw15690045001968195222:=True
def tw4197184492488433649:=True
def tw12579414007764702803:=True
def tw7388737391306820931:=True
def tw1617379976984853665:=True
def tw15910638899513546908:=True
def tw13678778024629240169:=True
def tw12880395220824048116:=True
def tw8633914197956370048:=True
def tw8313269312275630427:=True
def tw237571888416823574:=True
def tw11701092024750748321:=True
def tw14810626334678622460:=True
def tw9992762314924054269:=True
def tw10512459176007720171:=True
def tw17589239797047199266:=True
def tw2494960375049917093:=True
def tw9786752350810817724:=True
def tw2073912128938562797:=True
def tw7460425637621042343:=True
def tw2906454051991323002:=True
def tw11945912631367208002:=True
def tw17648934412966057757:=True
def tw13817503087667709091:=True
def tw12524748540358155060:=True
def tw4524992446073893626:=True
def tw4426863832036716853:=True
def tw17512513127856202403:=True
def tw8227507872118789334:=True
def tw15275251626235488440:=True
def tw6298847233535929370:=True
def tw317649928642732079:=True
def tw12665896480290281748:=True
def tw16248050601777180148:=True
def tw7928145686192175818:=True
def tw11461472976383600693:=True
def tw11942227855861893650:=True
def tw7136545555442656381:=True
def tw1299146707615971022:=True
def tw3828609643822725452:=True
def tw17107157110462022444:=True
def tw6458160230612255895:=True
def tw15709513466090510116:=True
def tw11401185088666128613:=True
def tw18445757713915355829:=True
def tw6284328416671960874:=True
def tw5149428256749004885:=True
def tw15269732604960061776:=True
def tw15398315031009512239:=True
def tw10011468826997672530:=True
def tw9995892743436901417:=True
def tw6016226068675513730:=True
def tw9626030217654200244:=True
def tw5878036384608337855:=True
def tw15032401953868474612:=True
def tw6324039803573813760:=True
def tw3198553084247014368:=True
def tw9209758885923938344:=True
def tw5516758332313723068:=True
def tw942335124200605650:=True
def tw4594975444896420519:=True
def tw7371018509295658798:=True
def tw14694726927460735476:=True
def tw14744590925356322238:=True
def tw11119860793727040609:=True
def tw6392686635899085693:=True
def tw6937636201617502458:=True
def tw9972108031996680550:=True
def tw31039910791620582:=True
def tw12730796934596396308:=True
def tw12373531751828765971:=True
def tw16282098767572415973:=True
def tw8741387421085839495:=True
def tw12300803920303722706:=True
def tw1266882268965932032:=True
def tw17960241709590364214:=True
def tw6274406220393561261:=True
def tw11553676630316602813:=True
def tw2018439500608469173:=True
def tw14056241393639647226:=True
def tw12510194184727391587:=True
def tw16767682538590976404:=True
def tw503274820022869703:=True
def tw9873837011403611225:=True
def tw7899283775999876352:=True
def tw12520603324864364084:=True
def tw3891389957397726222:=True
def tw1640574855344803706:=True
def tw14065254590052445026:=True
def tw4709397527867325097:=True
def tw14463465080651899650:=True
def tw12832017976833782821:=True
def tw6057970943156482402:=True
def tw15874014224544060812:=True
def tw8756470685657032140:=True
def tw6264141025122103172:=True
def tw4547803921382048689:=True
def tw2341429038150561231:=True
def tw9270684503935287050:=True
def tw7688032693992710908:=True
def tw3639717061769115289:=True
def tw9792475367527159359:=True
def tw5845769072823872452:=True
def tw5190126008775645879:=True
def tw14542430814921595876:=True
def tw13888238306988374272:=True
def tw12296056336827323532:=True
def tw17632231200350088351:=True
def tw811156169139665501:=True
def tw6297194300068813863:=True
def tw8956168257506310955:=True
def tw6830249330003690463:=True
def tw6207507713021624383:=True
def tw14569821385246354240:=True
def tw15504264203048790719:=True
def tw10674263446306953923:=True
def tw10333145315897475734:=True
def tw16580054348796985314:=True
def tw7235566414352941930:=True
def tw11972239648942773741:=True
def tw1301992581375867018:=True
def tw13465447054938106076:=True
def tw15897374659316432954:=True
def tw17526109534556464516:=True
def tw17663828457617959568:=True
def tw11896676589155410529:=True
def tw2473949399648967403:=True
def tw5999114737579319676:=True
def tw16651654180449098591:=True
def tw2643469462710190516:=True
def tw9969150913758225469:=True
def tw8728488662093782753:=True
def tw3511922297654443933:=True
def tw95591567445722201:=True
def tw12898393768085128672:=True
def tw18179231539909437345:=True
def tw13926226356682218455:=True
def tw9353128090149237449:=True
def tw10590486754852700891:=True
def tw18332199982355661045:=True
def tw9120355495071761255:=True
def tw10648799836640187053:=True
def tw13209392927243903327:=True
def tw7719759393331975658:=True
def tw16313283771383590638:=True
def tw13706111541863005203:=True
def tw18200202748827198080:=True
def tw9772952392383876112:=True
def tw2909279412000102515:=True
def tw11900998349698095132:=True
def tw13588248577445418612:=True
def tw13163117190353396458:=True
def tw6828828623294782805:=True
def tw4131756961225373548:=True
def tw11461402964379031328:=True
def tw14203206321223763860:=True
def tw382040719437528997:=True
def tw18374969082347910756:=True
def tw4468714980798900990:=True
def tw2568917070130993541:=True
def tw8718603279212139945:=True
def tw18172110991709880689:=True
def tw12179077778513996911:=True
def tw4135834896027901597:=True
def tw6288069606875274722:=True
def tw4730781699939813120:=True
def tw6520526468704888634:=True
def tw18142197788499126437:=True
def tw3992284504368372855:=True
def tw13529774817117812502:=True
def tw8464489913595160903:=True
def tw17851827961863391468:=True
def tw10457965752529335441:=True
def tw12554231479457555929:=True
def tw16395479958053643031:=True
def tw12573524166607057274:=True
def tw3973869598406126033:=True
def tw15083528168815227260:=True
def tw5850893171556399769:=True
def tw16364236354167056565:=True
def tw18271506458819059894:=True
def tw11883592335559562432:=True
def tw8846417482758579008:=True
def tw9462930267562120834:=True
def tw2684054305365855027:=True
def tw7386010926017571573:=True
def tw13099343722195916075:=True
def tw7353762249539716396:=True
def tw14737812131662231662:=True
def tw11163644569925041253:=True
def tw2199935594007516518:=True
def tw14776549178498677690:=True
def tw10389169877258894132:=True
def tw7502390683653134079:=True
def tw14090850268190056941:=True
def tw4400106896703228251:=True
def tw1549867011785822874:=True
def tw9218233298425229443:=True
def tw17873897170926760164:=True
def tw14835202203394679418:=True
def tw4724012368633991629:=True
def tw9486332205855367059:=True
def tw18167326094587572072:=True
def tw2559220457713423301:=True
def tw16136203933890494352:=True
def tw16604274119409297850:=True
def tw6230205924197136607:=True
def tw4213897125401582443:=True
def tw10699341093356331932:=True
def tw6764123381218229792:=True
def tw11092547311124391042:=True
def tw7014582105831503829:=True
def tw5216421385111680365:=True
def tw17509825582423354344:=True
def tw10471855901490983936:=True
def tw5070406762052128745:=True
def tw16875824330768963566:=True
def tw3140765444537982548:=True
def tw7880646472808373181:=True
def tw909892788069234413:=True
def tw10992572115000676457:=True
def tw8517146203418300608:=True
def tw3700062283687475052:=True
def tw5823317883073647662:=True
def tw9085528865354768121:=True
def tw13769267476910213190:=True
def tw6035559094074452459:=True
def tw12967192729338867680:=True
def tw17658230251395100786:=True
def tw6153347188747172023:=True
def tw10665271458529080229:=True
def tw12170423738339075984:=True
def tw9650092539825876088:=True
def tw12970596769631495833:=True
def tw5949874229689168772:=True
def tw5429255404727406072:=True
def tw6526194388687909151:=True
def tw11722765536648714854:=True
def tw8483999275495636037:=True
def tw6670670889903889209:=True
def tw16194668632315617634:=True
def tw9310761117044025558:=True
def tw11164151089555601611:=True
def tw16497458725646306124:=True
def tw8262328973623603769:=True
def tw14065979787935344052:=True
def tw15166289502477459604:=True
def tw5057082101635748169:=True
def tw17891996807701448992:=True
def tw5210511944905684214:=True
def tw11487343770728513261:=True
def tw17343405094628556587:=True
def tw7573736774480212745:=True
def tw8253322673802017310:=True
def tw17312755572823554362:=True
def tw2743454771846623091:=True
def tw16416824202066536739:=True
def tw355421086839767519:=True
def tw5233933725980076878:=True
def tw2007052949418270238:=True
def tw9321751285346558290:=True
def tw7703854164912270020:=True
def tw17571267423029675018:=True
def tw15883499849837573879:=True
def tw4765191723491960803:=True
def tw12487113913918299837:=True
def tw17914317865155948877:=True
def tw1384888007498206377:=True
def tw16296445592400543273:=True
def tw3120724958931688270:=True
def tw11019960440266854060:=True
def tw16353130592711712653:=True
def tw13686016567918633469:=True
def tw16428822309610165907:=True
def tw2752555519087404913:=True
def tw14431598001853651722:=True
def tw1732083684108106616:=True
end PySem.W.Fast
set_option maxRecDepth 100000
open PySem renaming wpAny_bind->OB,wpAny_pure->OC,Value->OE,Shared->OH,wpAny->O3,sizeLine->O6,Addr->Pf,Around->Pm,Program->Pp,mem_of_lookup->Pt,SetTable->Px,wpAny_setState_of->PD,mainGlobals->P0,sizeLine_eq->P9,World->Qn,call_isinstance->US,isinstance_true->UT,evalArgs_none->Vg,Builtin->Vp
open List renaming all_eq_true->OD,mem_cons_of_mem->OG,mem_cons_self->OI,mem_singleton->OK,length_append->OL,length_cons->OP,mem_cons->OS,mem_map->OT,mem_append->OU,getElem_mem->OV,getElem?_eq_some_iff->OY,map_cons->OZ,mem_map_of_mem->O9,range->Pa,getElem?_map->Pb,replicate->Pd,map_append->Pe,lookup_cons->Ph,take_of_length_le->Pk,mem_filter->Pl,mem_append_right->Pn,mem_append_left->Pu,map_map->Py,length_nil->Pz,mem_range->PF,mem_of_getElem?->PH,all_cons->PK,length_singleton->PM,length_drop->PN,append_assoc->PR,findIdx?_eq_some_iff_getElem->PU,drop_eq_getElem_cons->PV,length_filter_le->P6,nodup_cons->Qc,length_take->Qd,ext_getElem->Qe,find?_eq_none->Qg,size_toArray->Qk,eraseIdx_eq_take_drop_succ->Qm,map_nil->Qp,find?_cons->Qs,map_congr_left->Qv,take_append_drop->Qy,mem_filterMap->QA,length->QB,append_nil->QD,nil_append->QE,mem_of_mem_take->QH,mem_iff_getElem->QI,extract_eq_take_drop->QL,mem_of_find?_eq_some->QN,pairwise_cons->QS,any_eq_true->QT,pairwise_append->QU,nodup_append->Q2,length_range->Q3,length_pos_iff->Q5,drop_of_length_le->Q6,perm_ext_iff_of_nodup->Q8,getElem_map->Ra,getElem?_eq_none->Rf,zip_cons_cons->Rj,nodup_nil->Rk,pairwise_iff_getElem->Ro,length_eq_zero_iff->Ry,getElem_of_mem->RA,reverse_append->RD,getElem?_cons_zero->RE,mem_reverse->RG,getElem?_set_self->RI,toArray->RN,count_append->RV,mapM_cons->R2,findIdx?_eq_none_iff->R4,length_erase_of_mem->R8,foldl_cons->Se,sum_cons->Sh,filter_append->Sr,take_succ_eq_append_getElem->Ss,pairwise_map->SK,cons_append->S4,getElem?_set_ne->S5,count_singleton->Ta,of_mem_zip->Th,filterMap_cons->Tp,find?_some->Tr,getElem?_append_right->Tu,length_eraseIdx_of_lt->TG,count_pos_iff->TR,getElem?_eq_none_iff->TS,drop_zero->TU,getElem?_append_left->TV,extract_eq_drop_take->TX,drop_left->TZ,ext_getElem?->T3,getElem?_take_of_lt->T4,foldl_append->T8,reverse_perm->T9,take_add_one->Ua,find?_append->Ui,take_add->Up,map_take->Uq,getElem?_cons_succ->Uu,map_id->Ux,perm_middle->UA,take_length->UB,mem_flatMap->UC,range_succ_eq_map->UD,pairwise_lt_range->UK,length_pos_of_mem->UP,perm_append_comm->UX,pairwise_reverse->UY,mem_of_mem_drop->U8,reverse_reverse->Va,drop_drop->Vd,replicate_succ->Vf,take_succ_cons->Vi,take_set_of_le->Vk,drop_set_of_lt->Vl,map_drop->Vq,all_nil->Vw,lookup->VB
open PySem.Heap renaming get?_push_of_some->OJ,get?_push_size->OM,lt_size->O4,get?_update_other->Po,get?_update_self->Qi,SameBut->Rd,size_push->Rl,get?_push_ne->RS,size_update->SX,get?_update_ne->Tn,ExtBut->VC
open Bool renaming and_eq_true->ON,false_eq_true->OQ,or_eq_true->Qh,false_ne_true->Qo,eq_iff_iff->QC,not_true->RB,not_eq_true'->RR,and_false->SR,not_false->SU,and_true->Vs
open Array renaming getElem?_eq_getElem->OO,getD_eq_getD_getElem?->Pc,size_map->Pj,getD->PJ,length_toList->PY,toList_append->Qu,getElem?_toList->QP,getElem_of_mem->Rp,toList_extract->RY,forIn_toList->Si,size_eq_zero_iff->Sw,toList_push->SH,mem_toList_iff->S8,getElem?_push->Tj,getElem?_eq_some_iff->Tw,perm_iff_toList_perm->TC,getElem?_eq_none_iff->TH,toList_map->Uz,getElem?_extract->UJ,toList_filterMap->UL,toList_reverse->U9,ext'->Vt
open Nat renaming le_refl->OR,lt_of_lt_of_le->O5,ne_of_lt->O8,zero_le->Pg,le_trans->Pq,mod_lt->PZ,lt_irrefl->Qj,lt_succ_self->QJ,lt_succ_of_lt->QK,add_assoc->QW,ne_of_gt->QX,lt_trans->Rw,le_succ->RF,pow_succ->RO,mul_le_mul_right->RZ,add_sub_cancel->Sp,mod_eq_of_lt->SY,le_of_eq->TM,lt_or_ge->TN,le_succ_of_le->Ub,lt_trichotomy->Uc,reduceAdd->Uv,reduceSub->Uw,le_of_lt->UR,add_zero->UW,zero_add->UZ,succ_pos->U1,pow_le_pow_right->Vb,one_pos->Vj,mul_comm->Vx
open Option renaming map_eq_some_iff->OW,isSome_iff_exists->Qw,bind_eq_some_iff->QV,bind_some->Rb,join_some->Rc,getD_some->SW,getD_none->Uy,map_eq_none_iff->UQ,map->VG
open PySem.Paired renaming length->OX
open PySem.W renaming Frag->O7,keepIn->PW,fnOf->P5,nsIn->QR,codeIn->Rm,excIn->RU,callWith_K->Sb,mg_of->So,cellsFrom_some->Sx,hideAll->U3,findIn->Vc,exmOne->Ve,codeRec_of->Vn
open PySem.Around renaming under_plainId->Pw,frames_deeper->S9
open PySem.SetTable renaming insertAt->PB,runEnd->PC,bits->PL,below->PQ,leap->Qb,turns->QM,Probe->QY,grown->QZ,advance->RH,fresh->R6,layClean->SN,sizeAbove->TQ,has->U0,fill->Vr
open PySem.AutoSeq1 renaming wpAny_loadPart'->P1
open PySem.Value renaming none->P7,ref->Q4,str->RM,builtin->Tc,type->Ue,notImplemented->U7,int->VD
open Classical renaming propDecidable->P8,byContradiction->Qr,skolem->Vz
open PySem.Heap.SameBut renaming update->Qa
open Int renaming toNat_natCast->Qf,emod_lt_of_pos->Sl,emod_nonneg->To,toNat->VE
open PyProof.Rows renaming slot_tuple_getitem->Ql,callWith_type1->Tf,lt_str->Vh
open Option.some renaming inj->Qq
open PySem.NameKind renaming free->Qt,cell->Uk
open PySem.Obj renaming mapSeq->Qx,data_mapFields->Rh,mapFields->Sj,isFreed_of_fields->SV,cls_mapFields->T7,data_mapDictKeys->U6,putSet->Vu
open Ne renaming symm->Qz
open PySem.Expr renaming Name->QF,Constant->Tt,List->VF
open PySem.SeqAt renaming EqAt->QG
open PySem.Str renaming empty->QO,ofString->Rg
open PySem.F renaming slot_dict_keyiterator_next->Q7,slot_tuple_getattribute->Ru,slot_list_getattribute->Rx,slot_bool_hash->RJ,slot_tuple_hash->RK,called_set->RP,args_tuple_add_2->R7,entry_tuple_add->Sf,plainAttrs_dict->Sn,slot_tuple_add->Sy,slot_list_append->S7,slot_dict_setdefault->Td,excBase_ValueError->TK,plain_extend_loop->TY,slot_list_remove->Uh,plain_list_iadd->Ur,slot_dict_items->Us,plainAttrs_list->Ut,slot_list_iadd->UG,slot_dict_iter->UH,plainAttrs_str->UO,slot_dict_get->UU
open PySem.MeetsSeq renaming plain_remove_loop->Q9,entry_remove_loop->TJ
open PySem.Builtin.Slice renaming slicePlaces->Rn,sliceAdjust->R3,sliceApplied->Tv
open PySem.Builtin.Tuple renaming tupleExact->Rr,tupleItemsOf->RX,tupleHashOf->R1
open PySem.SetTable.probe renaming go->Rv
open PySem.MeetsSeq3 renaming plain_eq_loop->RC,entry_eq_loop->Ul
open ForInStep renaming yield->RL
open PySem.Builtin.List renaming listExtendWith->RQ,listLengthHint->Tq,listTooLong->T6,listSameRef->Ug
open PySem.Calls renaming Name_function_global->RW,call_function_entry->R5,spliced_cons->R9,spliced_nil->SD,Constant_str->TL,loadGlobal_global->Uj,callWith_builtin->UE,evalArgs_plain->U5
open PySem.PassesOwn renaming never->Sa
open PySem.SetTable.layClean renaming free->Sz
open False renaming elim->SF
open Function renaming comp_def->SG
open PySem.Txt renaming isupper->SJ
open PySem.SetTable.below renaming go->SM
open List.Pairwise renaming nil->SO,imp_of_mem->Ud
open PySem.Stmt renaming Assign->SQ,Return->Vv
open List.cons renaming inj->Te
open PySem.Builtin.Str renaming strSliceIndices->Ti
open PySem.SeqAt.RcNeAt renaming lists_lengths->Tz,lists->Vo
open PySem.Manifest.ParamKind renaming posOnly->TF
open PySem.Shared renaming TypeIs->Um
open PySem.Builtin.Dict renaming updateFrom->Uo,pairItems->UI
open PySem.Manifest.Receiver renaming self->UM,none->UN
open PySem.SetTable.sizeAbove renaming go->U2
open PyProof.Rows.SortSt renaming mk'->U4
open Iff renaming rfl->Vm
open PySem.IsL renaming update->Vy
open PySem.Const renaming bool->VA
theorem Lm9 {α:Type _} {β:Type _} {as:List α} (f:α->β):(as.map f).length=as.length:=List.length_map f
theorem Ge9 {α:Type _} {l:List α} {i:Nat} (h:i<l.length):l[i]?=some l[i]:=List.getElem?_eq_getElem h
theorem Gd9 {α:Type _} {l:List α} {i:Nat} {a:α}:l.getD i a=(l[i]?).getD a:=List.getD_eq_getElem?_getD
namespace Om
theorem q0 {a m k:Nat} (h:a<=m:=by with_reducible assumption) (g:m<=k:=by decide):a<=k:=Pq h g
theorem q1 {a m k:Nat} (h:a<=m:=by with_reducible assumption) (g:m<k:=by decide):a<k:=Nat.lt_of_le_of_lt h g
theorem q2 {a b k:Nat} (h:a<b:=by with_reducible assumption) (e:b=k:=by with_reducible assumption):a<k:=e▸h
theorem q3 {a b k:Nat} (h:a<b:=by with_reducible assumption) (e:k=b:=by with_reducible assumption):a<k:=e▸h
theorem q4 {a b m k:Nat} (e:a=b:=by with_reducible assumption) (h:b<=m:=by with_reducible assumption) (g:m<=k:=by decide):a<=k:=Pq (e▸h) g
theorem q5 {a b m k:Nat} (e:b=a:=by with_reducible assumption) (h:b<=m:=by with_reducible assumption) (g:m<=k:=by decide):a<=k:=Pq (e▸h) g
theorem q6 {a m k:Nat} (e:a=m:=by with_reducible assumption) (g:m<=k:=by decide):a<=k:=e▸g
end Om
local macro_rules|`(tactic| omega)=>`(tactic| first|exact Om.q0|exact Om.q1|exact Om.q2|exact Om.q3|exact Om.q4|exact Om.q5|exact Om.q6|lia -abstractProof)
local macro_rules|`(tactic| grind)=>`(tactic| grind -abstractProof)
set_option bootstrap.genMatcherCode false
set_option compiler.extract_closed false
noncomputable section
namespace M
open PySem
abbrev Cs:=List Nat
theorem Dy {g:Prop} (h:∀G:Prop,(g->G)->G):g:=h g id
inductive T where
 | bK|bl (b:Bool)|int (i:Int)|str (s:Cs)|tup (xs:List T)|lst (xs:List T)|aO (ks:List (T × T))|obj (c:Str) (fs:List (Str × T))|ref (n:Nat)|cl (c:OE)
abbrev Live:=List T
abbrev Fr:=List (Option T)
noncomputable def at_ {α:Type}:List α->Nat->Option α
 | [],_=>none
 | c::L,n=>if n=L.length then some c else at_ L n
noncomputable def put {α:Type}:List α->Nat->α->List α
 | [],_,_=>[]
 | c::L,n,d=>if n=L.length then d::L else c::put L n d
inductive R (α:Type) where
 | ok (a:α) (L:Live)|bad
noncomputable def R.bind {α β:Type}:R α->(α->Live->R β)->R β
 | .ok a L,f=>f a L
 | .bad,_=>.bad
theorem R.of {α β:Type} {r:R α} {f:α->Live->R β} {b L} (h:r.bind f=.ok b L):∃a L1,r=.ok a L1/\f a L1=.ok b L:=by
 cases r with
 | ok a L1=>exact⟨a,L1,rfl,h⟩
 | bad=>cases h
inductive O where
 | nx (φ:Fr) (L:Live)|rt (t:T) (L:Live)|bk (φ:Fr) (L:Live)|ct (φ:Fr) (L:Live)|bad
noncomputable def O.of {α:Type} (r:R α) (f:α->Live->O):O:=match r with
 | .ok a L=>f a L
 | .bad=>.bad
abbrev SE:=Fr->Live->R T
abbrev ST:=Fr->Live->R Bool
abbrev SA:=Fr->Live->R (List T)
abbrev SS:=Fr->Live->O
abbrev Fn:=List T->Live->R T
abbrev SI:=Fr->Live->R (List T × (Live->Prop))
noncomputable def vw (L:Live):T->T
 | .ref n=>(at_ L n).getD .bK
 | t=>t
noncomputable def lim:Nat:=16777216
noncomputable def bD {α:Type} (c:Prop) [Decidable c] (r:R α):R α:=if c then r else .bad
noncomputable def mk (fz:Bool) (t:T) (L:Live):R T:=if fz=true then .ok t L else .ok (.ref L.length) (t::L)
noncomputable def eE (fz:Bool) (xs:List T) (L:Live):R T:=bD (xs.length<=lim) (mk fz (.lst xs) L)
noncomputable def lift (o:Option T) (L:Live):R T:=match o with
 | some t=>.ok t L
 | none=>.bad
noncomputable def dat:Nat->T->Bool
 | _+1,.bK=>true
 | _+1,.bl _=>true
 | _+1,.int _=>true
 | _+1,.str _=>true
 | n+1,.tup xs=>xs.all (dat n)
 | n+1,.lst xs=>xs.all (dat n)
 | _,_=>false
noncomputable def iO (f:T->T->Bool):List T->List T->Bool
 | [],[]=>true
 | a::r,b::q=>f a b && iO f r q
 | _,_=>false
noncomputable def mX:Nat->T->T->Bool
 | _+1,.bK,.bK=>true
 | _+1,.bl a,.bl b=>a == b
 | _+1,.bl a,.int b=>(if a then 1 else 0) == b
 | _+1,.int a,.bl b=>a == (if b then 1 else 0)
 | _+1,.int a,.int b=>a == b
 | _+1,.str a,.str b=>a == b
 | n+1,.tup a,.tup b=>iO (mX n) a b
 | n+1,.lst a,.lst b=>iO (mX n) a b
 | _,_,_=>false
noncomputable abbrev eqT:T->T->Bool:=mX 8
noncomputable def nh:T->Bool
 | .int _=>true
 | .str _=>true
 | _=>false
noncomputable def kd:Nat->T->Bool
 | n+1,.tup xs=>xs.all (kd n)
 | _+1,t=>nh t
 | 0,_=>false
noncomputable def AI:T->Bool
 | .tup xs=>xs.all (kd 6)
 | _=>false
noncomputable def kh:Nat->T->Bool
 | n+1,.tup xs=>xs.all (kh n)
 | _+1,.bl _=>true
 | _+1,t=>nh t
 | 0,_=>false
noncomputable def Lr:T->Bool
 | .tup xs=>xs.all (kh 6)
 | _=>false
noncomputable def eF (ks:List T):Bool:=(ks.all nh || ks.all AI) || (decide (ks.length<=1) && ks.all Lr)
noncomputable def dh (ks:List (T × T)) (y:T):Prop:=eF (y::ks.map (·.1))=true
noncomputable instance (ks:List (T × T)) (y:T):Decidable (dh ks y):=by unfold dh;exact inferInstance
open Classical in
def di (ks:List (T × T)) (k:T):Option T:=(ks.find? fun p=>decide (p.1=k)).map (·.2)
open Classical in
def dput (ks:List (T × T)) (k v:T):List (T × T) :=
 if (ks.any fun p=>decide (p.1=k))=true then ks.map (fun p=>if p.1=k then (p.1,v) else p) else ks++[(k,v)]
noncomputable def qF (i j:Int):Prop:=(-(2 ^ 64)<i/\i<2 ^ 64)\/(-(2 ^ 64)<j/\j<2 ^ 64)
instance (i j:Int):Decidable (qF i j):=P8 _
noncomputable def t8 (j:Int):Prop:=0<j/\j<1073741824
instance (j:Int):Decidable (t8 j):=P8 _
noncomputable def D4 (i j:Int):Prop:=0<=j/\j<=1000000/\i.natAbs<2 ^ 64
instance (i j:Int):Decidable (D4 i j):=P8 _
noncomputable def t9 (j:Int):Prop:=-(2 ^ 62)<=j/\j<=1000000
instance (j:Int):Decidable (t9 j):=P8 _
def oI (op:Operator) (i j:Int) (L:Live):R T:=match op with
 | .Add=>.ok (.int (i+j)) L
 | .Sub=>.ok (.int (i - j)) L
 | .Mult=>bD (qF i j) (.ok (.int (i * j)) L)
 | .FloorDiv=>bD (t8 j) (.ok (.int (i / j)) L)
 | .Mod=>bD (0<j) (.ok (.int (i % j)) L)
 | .Pow=>bD (D4 i j) (.ok (.int (i ^ j.toNat)) L)
 | _=>.bad
def oS (op:Operator) (a:Cs) (y:T) (L:Live):R T:=match y with
 | .str b=>match op with
  | .Add=>bD (a.length+b.length<=lim) (.ok (.str (a++b)) L)
  | _=>.bad
 | .int j=>match op with
  | .Mult=>match a with
   | [ch]=>bD (t9 j) (.ok (.str (Pd j.toNat ch)) L)
   | _=>.bad
  | _=>.bad
 | _=>.bad
def aw (fz:Bool) (op:Operator) (x y:T) (L:Live):R T:=match vw L x with
 | .int i=>match vw L y with
  | .int j=>oI op i j L
  | _=>.bad
 | .str a=>oS op a (vw L y) L
 | .lst a=>match vw L y with
  | .lst b=>match op with
   | .Add=>eE fz (a++b) L
   | _=>.bad
  | _=>.bad
 | .tup a=>match vw L y with
  | .tup b=>match op with
   | .Add=>bD (a.length+b.length<=lim) (.ok (.tup (a++b)) L)
   | _=>.bad
  | _=>.bad
 | _=>.bad
noncomputable def ag (op:Operator) (x y:T) (L:Live):R T:=match op,x,y with
 | .Add,.int i,.int j=>.ok (.int (i+j)) L
 | .Sub,.int i,.int j=>.ok (.int (i - j)) L
 | .Add,.ref n,y=>match at_ L n,vw L y with
  | some (.lst xs),.lst ys=>bD (xs.length+ys.length<=lim) (.ok (.ref n) (put L n (.lst (xs++ys))))
  | _,_=>.bad
 | _,_,_=>.bad
noncomputable def D5 (x y:T) (L:Live):R Bool:=bD (dat 8 (vw L x)=true/\dat 8 (vw L y)=true) (.ok (eqT (vw L x) (vw L y)) L)
noncomputable def Hb (x y:T) (L:Live):R Bool:=match x,y with
 | .int i,.int j=>.ok (i != j) L
 | .str a,.str b=>.ok (a != b) L
 | .lst a,.lst []=>.ok (!a.isEmpty) L
 | _,_=>.bad
noncomputable def Hc (x y:T) (L:Live):R Bool:=match x,y with
 | .int i,.int j=>.ok (decide (i<j)) L
 | .str a,.str b=>.ok (decide (a<b)) L
 | .lst a,.lst b=>bD (dat 8 (.lst a)=true/\dat 8 (.lst b)=true/\eqT (.lst a) (.lst b)=true) (.ok false L)
 | _,_=>.bad
noncomputable def Hd (x y:T) (L:Live):R Bool:=match x,y with
 | .int i,.int j=>.ok (decide (j<i)) L
 | _,_=>.bad
noncomputable def Dz (x y:T) (L:Live):R Bool:=match x,y with
 | .int i,.int j=>.ok (decide (i<=j)) L
 | _,_=>.bad
def mY (x y:T) (L:Live):R Bool:=match vw L y with
 | .str b=>match x with
  | .str [ch]=>.ok (decide (ch∈b)) L
  | _=>.bad
 | .lst ys=>bD (dat 8 x=true/\ys.all (dat 8)=true) (.ok (ys.any fun y=>eqT y x) L)
 | .tup ys=>bD (dat 8 x=true/\ys.all (dat 8)=true) (.ok (ys.any fun y=>eqT y x) L)
 | .aO ks=>bD (dh ks x) (.ok (di ks x).isSome L)
 | _=>.bad
noncomputable def He:T->Bool
 | .bK=>true
 | _=>false
noncomputable def R.map {α β:Type} (f:α->β):R α->R β
 | .ok a L=>.ok (f a) L
 | .bad=>.bad
def D6 (op:CmpOp) (x y:T) (L:Live):R Bool:=match op with
 | .Eq=>D5 x y L
 | .NotEq=>Hb x y L
 | .Lt=>Hc x y L
 | .Gt=>Hd x y L
 | .LtE=>Dz x y L
 | .GtE=>Dz y x L
 | .In=>mY x y L
 | .NotIn=>(mY x y L).map (!·)
 | .Is=>match y with
  | .bK=>.ok (He x) L
  | _=>.bad
 | .IsNot=>match y with
  | .bK=>.ok (!He x) L
  | _=>.bad
def cmp (op:CmpOp) (x y:T) (L:Live):R T:=(D6 op x y L).map .bl
noncomputable def place (n:Nat) (i:Int):Option Nat:=if 0<=i then (if i<n then some i.toNat else none) else if -(n:Int)<=i then some (i+n).toNat else none
def ix (x y:T) (L:Live):R T:=match vw L x with
 | .str s=>match y with
  | .int i=>lift (((place s.length i).bind fun k=>s[k]?).map fun ch=>.str [ch]) L
  | _=>.bad
 | .tup xs=>match y with
  | .int i=>lift ((place xs.length i).bind fun k=>xs[k]?) L
  | _=>.bad
 | .lst xs=>match y with
  | .int i=>lift ((place xs.length i).bind fun k=>xs[k]?) L
  | _=>.bad
 | .aO ks=>bD (dh ks y) (lift (di ks y) L)
 | _=>.bad
noncomputable def clip (n d:Nat):Option Int->Nat
 | none=>d
 | some i=>if i<0 then (i+n).toNat else min i.toNat n
noncomputable def cut {α:Type} (xs:List α) (lo hi:Option Int):List α:=(xs.drop (clip xs.length 0 lo)).take (clip xs.length xs.length hi - clip xs.length 0 lo)
noncomputable def oX (fz:Bool) (x:T) (lo hi:Option Int) (L:Live):R T:=match vw L x with
 | .str s=>match lo,hi with
  | some i,some j=>bD (0<=i/\i<=j/\j<=s.length) (.ok (.str ((s.drop i.toNat).take (j - i).toNat)) L)
  | none,some j=>bD (0<=j/\j<=s.length) (.ok (.str (s.take j.toNat)) L)
  | some i,none=>bD (0<=i/\i<=s.length) (.ok (.str (s.drop i.toNat)) L)
  | _,_=>.bad
 | .tup xs=>.ok (.tup (cut xs lo hi)) L
 | .lst xs=>eE fz (cut xs lo hi) L
 | _=>.bad
noncomputable def v (i:Nat):SE:=fun φ L=>lift ((φ[i]?).join) L
noncomputable def c (x:T):SE:=fun _ L=>.ok x L
noncomputable def no {α:Type}:Fr->Live->R α:=fun _ _=>.bad
noncomputable def d5:List SE->SA
 | [],_,L=>.ok [] L
 | m::ms,φ,L=>(m φ L).bind fun t L1=>(d5 ms φ L1).bind fun ts L2=>.ok (t::ts) L2
noncomputable def b1 (a:SE) (f:T->Live->R T):SE:=fun φ L=>(a φ L).bind f
noncomputable def b2 (a b:SE) (f:T->T->Live->R T):SE:=fun φ L=>(a φ L).bind fun x L1=>(b φ L1).bind fun y L2=>f x y L2
noncomputable def tv (a:SE):ST:=fun φ L=>(a φ L).bind fun x L1=>match x with
 | .bl b=>.ok b L1
 | _=>.bad
noncomputable def xF (a b:ST):ST:=fun φ L=>(a φ L).bind fun x L1=>if x=true then b φ L1 else .ok false L1
noncomputable def Hf (a b:ST):ST:=fun φ L=>(a φ L).bind fun x L1=>if x=true then .ok true L1 else b φ L1
noncomputable def eG (a:ST):ST:=fun φ L=>(a φ L).map (!·)
noncomputable def yes:ST:=fun _ L=>.ok true L
noncomputable def tup (ms:List SE):SE:=fun φ L=>(d5 ms φ L).bind fun ts L1=>.ok (.tup ts) L1
noncomputable def lst (fz:Bool) (ms:List SE):SE:=fun φ L=>(d5 ms φ L).bind fun ts L1=>eE fz ts L1
noncomputable def oY (fz:Bool):SE:=fun _ L=>mk fz (.aO []) L
noncomputable def AJ:Option SE->Fr->Live->R (Option Int)
 | none,_,L=>.ok none L
 | some m,φ,L=>(m φ L).bind fun t L1=>match t with
  | .int i=>.ok (some i) L1
  | _=>.bad
noncomputable def sl (fz:Bool) (a:SE) (lo hi:Option SE):SE:=fun φ L=>(a φ L).bind fun x L1=>(AJ lo φ L1).bind fun i L2=>(AJ hi φ L2).bind fun j L3=>oX fz x i j L3
noncomputable def aq (f:Fn) (ms:List SE):SE:=fun φ L=>(d5 ms φ L).bind f
inductive Ty where
 | s|l|t|d
noncomputable def xG (L:Live) (t:T):Option Ty:=match vw L t with
 | .str _=>some .s
 | .lst _=>some .l
 | .tup _=>some .t
 | .aO _=>some .d
 | _=>none
noncomputable def aY (f:Ty->Option (T->Fn)) (a:SE) (ms:List SE):SE:=fun φ L=>(a φ L).bind fun x L1=>match (xG L1 x).bind f with
 | some F=>(d5 ms φ L1).bind fun ts L2=>F x ts L2
 | none=>.bad
open Classical in
def stays (x:T) (L:Live):Live->Prop:=fun L'=>∀n,x=.ref n->at_ L' n=at_ L n
noncomputable def items (x:T) (L:Live):Option (List T):=match vw L x with
 | .str s=>some (s.map fun ch=>.str [ch])
 | .tup xs=>some xs
 | .lst xs=>some xs
 | .aO []=>some []
 | _=>none
def src (a:SE):SI:=fun φ L=>(a φ L).bind fun x L1=>match items x L1 with
 | some xs=>.ok (xs,stays x L1) L1
 | none=>.bad
noncomputable def upTo (lo:Int) (n:Nat):List T:=(Pa n).map fun(k:Nat)=>.int (lo+k)
noncomputable def tS (i:Int):Prop:=-(2 ^ 62)<=i/\i<2 ^ 62
instance (i:Int):Decidable (tS i):=P8 _
def ni (a b:SE):SI:=fun φ L=>(a φ L).bind fun x L1=>(b φ L1).bind fun y L2=>match x,y with
 | .int i,.int j=>bD (tS i/\tS j) (.ok (upTo i (j - i).toNat,fun _=>True) L2)
 | _,_=>.bad
noncomputable def av (ks:List (T × T)):List T:=ks.map fun p=>.tup [p.1,p.2]
inductive Tg where
 | one (i:Nat)|many (is:List Nat)
noncomputable def sets:List Nat->List T->Fr->Fr
 | i::is,t::ts,φ=>sets is ts (φ.set i (some t))
 | _,_,φ=>φ
noncomputable def Tg.set:Tg->T->Fr->Option Fr
 | .one i,t,φ=>some (φ.set i (some t))
 | .many is,.tup ts,φ=>if ts.length=is.length then some (sets is ts φ) else none
 | _,_,_=>none
open Classical in
def compLoop (k:Live->Prop) (tg:Tg) (ts:ST) (m:SE) (ψ:Fr):List T->List T->Live->R (List T)
 | [],acc,L=>if k L then .ok acc L else .bad
 | t::r,acc,L=>if k L/\acc.length<lim then match tg.set t ψ with
   | some ψ1=>(ts ψ1 L).bind fun b L1=>if b=true then (m ψ1 L1).bind fun y L2=>compLoop k tg ts m ψ r (acc++[y]) L2 else compLoop k tg ts m ψ r acc L1
   | none=>.bad
  else .bad
noncomputable def inner (aM:List (Option Nat)) (φ:Fr):Fr:=aM.map fun o=>o.bind fun i=>(φ[i]?).join
def comp (fz:Bool) (s:SI) (aM:List (Option Nat)) (tg:Tg) (ts:ST) (m:SE):SE:=fun φ L=>(s φ L).bind fun u L1=>(compLoop u.2 tg ts m (inner aM φ) u.1 [] L1).bind fun xs L2=>mk fz (.lst xs) L2
noncomputable def O.next (o:O) (f:Fr->Live->O):O:=match o with
 | .nx φ L=>f φ L
 | o=>o
noncomputable def af:List SS->SS
 | [],φ,L=>.nx φ L
 | s::r,φ,L=>(s φ L).next (af r)
noncomputable def pass:SS:=fun φ L=>.nx φ L
noncomputable def cnt:SS:=fun φ L=>.ct φ L
noncomputable def j9:SS:=fun _ _=>.bad
noncomputable def asg (tg:Tg) (m:SE):SS:=fun φ L=>O.of (m φ L) fun t L1=>match tg.set t φ with
 | some φ1=>.nx φ1 L1
 | none=>.bad
noncomputable def ja (m:SE):SS:=fun φ L=>O.of (m φ L) fun _ L1=>.nx φ L1
noncomputable def ret (m:SE):SS:=fun φ L=>O.of (m φ L) fun t L1=>.rt t L1
noncomputable def iff (k:ST) (a b:SS):SS:=fun φ L=>O.of (k φ L) fun x L1=>if x=true then a φ L1 else b φ L1
def iP (x y t:T) (L:Live):Option Live:=match x with
 | .ref n=>match at_ L n with
  | some (.aO ks)=>if ks.length<lim/\dh ks y then some (put L n (.aO (dput ks y t))) else none
  | some (.lst xs)=>match y with
   | .int i=>if 0<=i/\i<xs.length then some (put L n (.lst (xs.set i.toNat t))) else none
   | _=>none
  | _=>none
 | _=>none
def sE (o i m:SE):SS:=fun φ L=>O.of (m φ L) fun t L1=>O.of (o φ L1) fun x L2=>O.of (i φ L2) fun y L3=>match iP x y t L3 with
 | some L4=>.nx φ L4
 | none=>.bad
def D7 (x y:T) (L:Live):R T:=match vw L x with
 | .aO ks=>bD (dh ks y) (lift (di ks y) L)
 | _=>.bad
def ua (op:Operator) (o i m:SE):SS:=fun φ L=>O.of (o φ L) fun x L1=>O.of (i φ L1) fun y L2=>O.of (D7 x y L2) fun z L3=>O.of (m φ L3) fun t L4=>O.of (ag op z t L4) fun r L5=>match iP x y r L5 with
 | some L6=>.nx φ L6
 | none=>.bad
open Classical in
def forL (k:Live->Prop) (tg:Tg) (b:SS):List T->SS
 | [],φ,L=>if k L then .nx φ L else .bad
 | t::r,φ,L=>if k L then match tg.set t φ with
   | some φ1=>match b φ1 L with
    | .nx φ2 L2=>forL k tg b r φ2 L2
    | .ct φ2 L2=>forL k tg b r φ2 L2
    | .bk φ2 L2=>.nx φ2 L2
    | o=>o
   | none=>.bad
  else .bad
def cw (s:SI) (tg:Tg) (b:SS):SS:=fun φ L=>O.of (s φ L) fun u L1=>forL u.2 tg b u.1 φ L1
mutual
noncomputable def lt (n:Nat):T->Bool
 | .ref k=>decide (k<n)
 | .tup xs=>iQ n xs
 | .lst xs=>iQ n xs
 | .aO ks=>DA n ks
 | .obj _ fs=>DB n fs
 | _=>true
noncomputable def iQ (n:Nat):List T->Bool
 | []=>true
 | x::xs=>lt n x && iQ n xs
noncomputable def DA (n:Nat):List (T × T)->Bool
 | []=>true
 | (x,y)::xs=>lt n x && lt n y && DA n xs
noncomputable def DB (n:Nat):List (Str × T)->Bool
 | []=>true
 | (_,y)::xs=>lt n y && DB n xs
end
noncomputable def eY (n0:Nat) (L:Live):Nat->T->Option T
 | 0,_=>none
 | k+1,t=>if lt n0 t=true then some t else match t with
  | .ref n=>match at_ L n with
   | some c=>eY n0 L k c
   | none=>none
  | .tup xs=>(xs.mapM (eY n0 L k)).map .tup
  | .lst xs=>(xs.mapM (eY n0 L k)).map .lst
  | .aO ks=>(ks.mapM fun p=>if lt n0 p.1=true then (eY n0 L k p.2).map fun x=>(p.1,x) else none).map .aO
  | .obj c fs=>(fs.mapM fun p=>(eY n0 L k p.2).map fun x=>(p.1,x)).map (.obj c)
  | _=>none
noncomputable def old (L Lo:Live):Prop:=∀n c,at_ Lo n=some c->at_ L n=some c\/lt L.length c=true
open Classical in
def fin (L:Live) (t:T) (L':Live):R T:=if old L (L'.drop (L'.length - L.length)) then lift (eY L.length L' 9 t) (L'.drop (L'.length - L.length)) else .bad
def run (np nn:Nat) (b:SS):Fn:=fun xs L=>if xs.length=np then match b (xs.map some++Pd (nn - np) none) L with
  | .rt t L'=>fin L t L'
  | .nx _ L'=>fin L .bK L'
  | _=>.bad
 else .bad
end M
namespace M
open PySem PySem.Spec PyProof.Rows
noncomputable def cW:Fn:=fun xs L=>match xs with
 | [x]=>match vw L x with
  | .str s=>.ok (.int s.length) L
  | .tup ys=>.ok (.int ys.length) L
  | .lst ys=>.ok (.int ys.length) L
  | _=>.bad
 | _=>.bad
noncomputable def dC (fz:Bool):Fn:=fun xs L=>match xs with
 | [x]=>match vw L x with
  | .tup ys=>eE fz ys L
  | .lst ys=>eE fz ys L
  | .aO ks=>eE fz (ks.map (·.1)) L
  | _=>.bad
 | _=>.bad
noncomputable def gA:Fn:=fun xs L=>match xs with
 | [x]=>match vw L x with
  | .tup ys=>.ok (.tup ys) L
  | .lst ys=>.ok (.tup ys) L
  | _=>.bad
 | _=>.bad
noncomputable def oU:T->Option Cs
 | .str s=>some s
 | _=>none
noncomputable def ub:Fn:=fun xs L=>match xs with
 | [.int i,.int j]=>.ok (.int (if j<i then j else i)) L
 | [.str a,.str b]=>.ok (.str (if b<a then b else a)) L
 | _=>.bad
noncomputable def Hy (L:Live) (n:String):T->R T
 | .bl _=>if n="bool" then .ok (.bl true) L else if n="int" then .ok (.bl true) L else .bad
 | .int _=>if n="bool" then .ok (.bl false) L else if n="int" then .ok (.bl true) L else .bad
 | .tup _=>if n="tuple" then .ok (.bl true) L else .bad
 | .lst _=>if n="list" then .ok (.bl true) L else .bad
 | _=>.bad
noncomputable def Hz:T->Option String
 | .cl c=>match c with
  | .type n=>some n
  | _=>none
 | _=>none
noncomputable def AK:Fn:=fun xs L=>match xs with
 | [x,y]=>match Hz y with
  | some n=>Hy L n x
  | none=>.bad
 | _=>.bad
noncomputable def toS (z:Cs):Str:=⟨z.toArray⟩
noncomputable def xH:T->Fn:=fun x ts L=>match x,ts with
 | .ref n,[t]=>match at_ L n with
  | some (.lst xs)=>bD (xs.length<lim) (.ok .bK (put L n (.lst (xs++[t]))))
  | _=>.bad
 | _,_=>.bad
noncomputable def jn (sep:Cs):List Cs->Cs
 | []=>[]
 | x::r=>match r with
  | []=>x
  | _::_=>x++sep++jn sep r
noncomputable def da:T->Fn:=fun x ts L=>match x,ts with
 | .str sep,[t]=>match (items t L).bind fun ys=>ys.mapM oU with
  | some zs=>match vw L t with
   | .str _=>.bad
   | .aO _=>.bad
   | _=>bD ((zs.map (·.length)).sum+zs.length * sep.length<=16777216) (.ok (.str (jn sep zs)) L)
  | none=>.bad
 | _,_=>.bad
def lI:T->Fn:=fun x ts L=>match vw L x,ts with
 | .aO ks,[y,t]=>bD (dh ks y) (.ok ((di ks y).getD t) L)
 | _,_=>.bad
def uc:T->Fn:=fun x ts L=>match x,ts with
 | .ref n,[y,t]=>match at_ L n with
  | some (.aO ks)=>bD (ks.length<lim/\dh ks y) (match di ks y with
   | some z=>.ok z L
   | none=>.ok t (put L n (.aO (dput ks y t))))
  | _=>.bad
 | _,_=>.bad
noncomputable def prsOf:List T->Option (List (T × T))
 | []=>some []
 | t::r=>match t,prsOf r with
  | .tup [k,x],some ps=>some ((k,x)::ps)
  | _,_=>none
def mZ (ps:List (T × T)):List (T × T):=ps.foldl (fun acc p=>dput acc p.1 p.2) []
def DC (ys:List T) (L:Live):R T:=match prsOf ys with
 | some ps=>bD (eF (ps.map (·.1))=true/\ps.length<=100000) (.ok (.ref L.length) (.aO (mZ ps)::L))
 | none=>.bad
def jb:Fn:=fun xs L=>match xs with
 | [x]=>match vw L x with
  | .lst ys=>DC ys L
  | .tup ys=>DC ys L
  | .aO []=>.ok (.ref L.length) (.aO []::L)
  | _=>.bad
 | _=>.bad
abbrev Hp:=Pf->Option (Bool × Obj)
noncomputable def upd (H:Hp) (a:Pf) (x:Bool × Obj):Hp:=fun b=>if b=a then some x else H b
theorem ak {H:Hp} {a x}:upd H a x a=some x:=if_pos rfl
theorem az {H:Hp} {a b x} (h:b≠a):upd H a x b=H b:=if_neg h
structure G where
 H:Hp
 α:List (Pf × Pf)
 B:Heap
 cls:Str->Option Pf
 w:Qn
noncomputable def G.kn (g:G) (b:Bool) (a:Pf) (o:Obj):Prop:=g.H a=some (b,o)\/(b=true/\g.B.get? a=some o)
noncomputable def qG (p:Option (Pf × Pf)) (a d:Pf):Prop:=p=none\/p=some (a,d)
mutual
noncomputable def hT (w:Qn):T->Int
 | .int i=>hashInt i
 | .str s=>hashStr w ⟨s.toArray⟩
 | .tup xs=>reduceHash (R1 (xI w xs))
 | .bl b=>hashInt (if b=true then 1 else 0)
 | _=>0
noncomputable def xI (w:Qn):List T->List Int
 | []=>[]
 | x::xs=>hT w x::xI w xs
end
inductive RT (g:G):Option (Pf × Pf)->T->OE->Prop
 | bK:RT g none .bK .none
 | bl (b):RT g none (.bl b) (.bool b)
 | int (i t):RT g none (.int i) (.int i t)
 | str (s t) (h:s.length<=O6):RT g none (.str s) (.str ⟨s.toArray⟩ t)
 | ty (n):RT g none (.cl (.type n)) (.type n)
 | own {n C} (h:g.cls n=some C):RT g none (.cl (.ref C)) (.ref C)
 | ref {n p} (h:at_ g.α n=some p):RT g none (.ref n) (.ref p.1)
 | tup {a o its n xs} (hk:g.kn true a o) (hc:o.cls=.type "tuple"/\o.dict=none) (hd:o.data=.seq its n) (hz:xs.length<=O6) (hl:xs.length=its.size)
   (hi:∀(i:Nat) x v,xs[i]?=some x->its[i]?=some v->RT g none x v):RT g none (.tup xs) (.ref a)
 | lst {p a its n xs} (ht:qG p a a) (hk:g.kn p.isNone a { cls:=.type "list",data:=.seq its n }) (hz:xs.length<=O6) (hl:xs.length=its.size)
   (hi:∀(i:Nat) x v,xs[i]?=some x->its[i]?=some v->RT g none x v):RT g p (.lst xs) (.ref a)
 | aO {p a o es n ks} (ht:qG p a a) (hk:g.kn p.isNone a o) (hx:o.ExactDict) (hd:o.data=.dict es n) (hz:ks.length<=O6) (hl:ks.length=es.size) (hn:(ks.map (·.1)).Nodup/\eF (ks.map (·.1))=true) (hs:(a == sysModules)=false)
   (hh:∀(i:Nat) x e,ks[i]?=some x->es[i]?=some e->e.hash=hT g.w x.1) (h1:∀(i:Nat) x e,ks[i]?=some x->es[i]?=some e->RT g none x.1 e.key)
   (h2:∀(i:Nat) x e,ks[i]?=some x->es[i]?=some e->RT g none x.2 e.val):RT g p (.aO ks) (.ref a)
 | obj {p a d C od es n c fs} (ht:qG p a d) (hne:d≠a) (hc:g.cls c=some C) (hk:g.kn p.isNone a (PySem.W.instObj C d)) (m4:g.kn p.isNone d od) (hd:od.data=.dict es n) (hs:StrKeys es) (hu:UniqKeys es)
   (hz:fs.length<=1000) (hn:(fs.map (·.1)).Nodup) (hl:∀f,(fs.lookup f).isSome=(nsFind es f).isSome) (hi:∀f x v,fs.lookup f=some x->nsFind es f=some v->RT g none x v):RT g p (.obj c fs) (.ref a)
structure Le (g g':G):Prop where
 f:∀a o,g.H a=some (true,o)->g'.H a=some (true,o)
 α:∀n p,at_ g.α n=some p->at_ g'.α n=some p
 B:g'.B=g.B
 m:g'.cls=g.cls
 w:g'.w=g.w
theorem Le.refl (g:G):Le g g:=⟨fun _ _ h=>h,fun _ _ h=>h,rfl,rfl,rfl⟩
theorem Le.trans {a b c:G} (x:Le a b) (y:Le b c):Le a c:=⟨fun _ _ h=>y.f _ _ (x.f _ _ h),fun _ _ h=>y.α _ _ (x.α _ _ h),y.B.trans x.B,y.m.trans x.m,y.w.trans x.w⟩
theorem Le.kn {g g':G} (l:Le g g') {a o} (h:g.kn true a o):g'.kn true a o:=by
 rcases h with h|⟨_,h⟩
 ·exact .inl (l.f _ _ h)
 ·exact .inr ⟨rfl,by rw [l.B];exact h⟩
theorem RT.up {g g':G} (l:Le g g') {p:Option (Pf × Pf)} (hp:∀q,p=some q->g'.H q.1=g.H q.1/\g'.H q.2=g.H q.2) {t v} (h:RT g p t v):RT g' p t v:=by
 have kn:∀{p:Option (Pf × Pf)} {a d b o},(∀q,p=some q->g'.H q.1=g.H q.1/\g'.H q.2=g.H q.2)->qG p a d->b=a\/b=d->g.kn p.isNone b o->g'.kn p.isNone b o:=fun {p a d b o} hp ht hb hk=>by
  rcases ht with rfl|rfl
  ·exact l.kn hk
  ·rcases hk with hk|⟨z,_⟩
   ·refine .inl ?_
    rcases hb with rfl|rfl
    ·rw [(hp _ rfl).1];exact hk
    ·rw [(hp _ rfl).2];exact hk
   ·cases z
 have n0:∀q:Pf × Pf,(none:Option (Pf × Pf))=some q->g'.H q.1=g.H q.1/\g'.H q.2=g.H q.2:=fun q z=>by cases z
 induction h with
 | bK=>exact .bK
 | bl b=>exact .bl b
 | int i t=>exact .int i t
 | str s t h=>exact .str s t h
 | ty n=>exact .ty n
 | own h=>exact .own (by rw [l.m];exact h)
 | ref h=>exact .ref (l.α _ _ h)
 | tup hk hc hd hz hl hi ih=>exact .tup (l.kn hk) hc hd hz hl fun i x v e1 e2=>ih i x v e1 e2 n0
 | lst ht hk hz hl hi ih=>exact .lst ht (kn hp ht (.inl rfl) hk) hz hl fun i x v e1 e2=>ih i x v e1 e2 n0
 | aO ht hk hx hd hz hl hn hs hh h1 h2 i1 i2=>exact .aO ht (kn hp ht (.inl rfl) hk) hx hd hz hl hn hs (by rw [l.w];exact hh) (fun i x v e1 e2=>i1 i x v e1 e2 n0) fun i x v e1 e2=>i2 i x v e1 e2 n0
 | obj ht hne hc hk m4 hd hs hu hz hn hl hi ih=>exact .obj ht hne (by rw [l.m];exact hc) (kn hp ht (.inl rfl) hk) (kn hp ht (.inr rfl) m4) hd hs hu hz hn hl fun f x v e1 e2=>ih f x v e1 e2 n0
theorem RT.le {g g':G} {t v} (h:RT g none t v) (l:Le g g'):RT g' none t v:=h.up l (fun _ z=>by cases z)
theorem RT.iI {g:G} {p:Option (Pf × Pf)} {i:Int} {v:OE} (h:RT g p (.int i) v):∃t,v=.int i t:=by cases h;exact⟨_,rfl⟩
noncomputable def HA (g:G) (xs:List T) (its:Array OE):Prop:=xs.length=its.size/\∀(i:Nat) x v,xs[i]?=some x->its[i]?=some v->RT g none x v
theorem RT.cI {g:G} {p:Option (Pf × Pf)} {n:String} {v:OE} (h:RT g p (.cl (.type n)) v):v=.type n:=by cases h;rfl
theorem RT.nI {g:G} {p:Option (Pf × Pf)} {v:OE} (h:RT g p .bK v):v=.none:=by cases h;rfl
theorem RT.bI {g:G} {p:Option (Pf × Pf)} {b:Bool} {v:OE} (h:RT g p (.bl b) v):v=.bool b:=by cases h;rfl
theorem RT.gD {g:G} {p:Option (Pf × Pf)} {z:Cs} {v:OE} (h:RT g p (.str z) v):∃t,v=.str ⟨z.toArray⟩ t/\z.length<=O6:=by cases h with|str _ t h=>exact⟨t,rfl,h⟩
theorem RT.sI {g:G} {p:Option (Pf × Pf)} {z:Cs} {v:OE} (h:RT g p (.str z) v):∃t,v=.str ⟨z.toArray⟩ t:=h.gD.imp fun _ h=>h.1
theorem RT.tI {g:G} {p:Option (Pf × Pf)} {xs:List T} {v:OE} (h:RT g p (.tup xs) v):RT g none (.tup xs) v/\∃a o its n,v=.ref a/\g.kn true a o/\(o.cls=.type "tuple"/\o.dict=none)/\o.data=.seq its n/\xs.length<=O6/\HA g xs its:=by cases h with|tup hk hc hd hz hl hi=>exact⟨.tup hk hc hd hz hl hi,_,_,_,_,rfl,hk,hc,hd,hz,hl,hi⟩
abbrev bz (g:G) (xs:List T) (us:List OE):Prop:=Paired (RT g none) xs us
theorem bz.le {g g':G} {xs us} (h:bz g xs us) (l:Le g g'):bz g' xs us:=by
 induction h with
 | nil=>exact .nil
 | cons a _ ih=>exact .cons (a.le l) ih
theorem cC {α β:Type} {F:α->β->Prop}:∀{xs:List α} {ys:List β},xs.length=ys.length->(∀(i:Nat) x v,xs[i]?=some x->ys[i]?=some v->F x v)->Paired F xs ys
 | [],[],_,_=>.nil
 | x::xs,y::ys,hl,h=>.cons (h 0 x y rfl rfl) (cC (by simpa using hl) fun i a b e1 e2=>h (i+1) a b (by simpa using e1) (by simpa using e2))
theorem oV {α β:Type} {F:α->β->Prop} {xs:List α} {ys:List β} (h:Paired F xs ys):∀(i:Nat) x v,xs[i]?=some x->ys[i]?=some v->F x v:=by
 induction h with
 | nil=>intro i x v e;simp at e
 | cons a _ ih =>
  intro i x v e1 e2;cases i with
  | zero=>simp at e1 e2;subst e1 e2;exact a
  | succ i=>exact ih i x v (by simpa using e1) (by simpa using e2)
theorem sF {α β:Type} {F:α->β->Prop} {xs:List α} {ys:List β} (h:Paired F xs ys) {i:Nat} {x} (e:xs[i]?=some x):∃v,ys[i]?=some v/\F x v:=by
 have hl:=OX h;have hi:i<ys.length:=by rw [<- hl];exact(OY.mp e).1
 exact⟨ys[i],by simp,oV h i x _ e (by simp)⟩
structure Rel (g:G) (L:Live):Prop where
 len:g.α.length=L.length
 cells:∀n c,at_ L n=some c->∃p,at_ g.α n=some p/\RT g (some p) c (.ref p.1)
 apart:∀n m p q,at_ g.α n=some p->at_ g.α m=some q->n≠m->p.1≠q.1/\p.1≠q.2/\p.2≠q.1/\p.2≠q.2
 live:∀n p,at_ g.α n=some p->(∃o,g.H p.1=some (false,o))/\∃o,g.H p.2=some (false,o)
noncomputable def HOk (H:Hp) (h:Heap):Prop:=∀a b o,H a=some (b,o)->h.get? a=some o
structure Un (ex:List Pf) (H H':Hp) (h h':Heap):Prop where
 keep:∀b o,h.get? b=some o->H b=none->b∉ex->h'.get? b=some o
 free:∀b o,h.get? b=some o->H b=none->b∉ex->H' b=none
 eY:∀b o,H b=some (true,o)->H' b=some (true,o)
theorem Un.trans {ex H H1 H2 h h1 h2} (a:Un ex H H1 h h1) (b:Un ex H1 H2 h1 h2):Un ex H H2 h h2 where
 keep:=fun c o q n x=>b.keep c o (a.keep c o q n x) (a.free c o q n x) x
 free:=fun c o q n x=>b.free c o (a.keep c o q n x) (a.free c o q n x) x
 eY:=fun c o q=>b.eY c o (a.eY c o q)
theorem Un.kept {ex H h h'} (k:∀b u,h.get? b=some u->h'.get? b=some u):Un ex H H h h':=⟨fun b o q _ _=>k b o q,fun _ _ _ n _=>n,fun _ _ q=>q⟩
theorem HOk.fresh {H h a} (x:HOk H h) (e:h.objs.size<=a):H a=none:=by
 cases q:H a with
 | none=>rfl
 | some u=>exact absurd (O5 (O4 (x a u.1 u.2 q)) e) (Qj _)
structure Mod (K:O7) (mg:Str->Option OE) (base:Heap):Prop where
 zP:K.In base
 glob:base.Ns P0 mg
 blt:∃mb,base.Ns builtinsNs mb/\∀x:Str,x≠"__name__"->mb x=bootBuiltins x
 nolimit:base.NoLimit
structure Cx where
 prog:Pp
 w:Qn
 K:O7
 mg:Str->Option OE
 cls:Str->Option Pf
 base:Heap
 A:Pm
 N:List Str
 s₀:OH
 H₀:Hp
 env:Env
 ex:List Pf
 fn:Str->Bool
noncomputable def HB (sc:Scope) (x:Str):Prop:=sc.names.lookup x=some .local\/sc.names.lookup x=some .cell\/sc.names.lookup x=some .free
noncomputable def Loc (sc:Scope) (x:Str):Prop:=sc.names.lookup x=some .local\/sc.names.lookup x=some .cell
noncomputable def Look (env:Env) (h:Heap) (m:Str->Option OE) (x:Str) (u:OE):Prop :=
 (env.kindOf x=some .local/\m x=some u)\/((env.kindOf x=some .cell\/env.kindOf x=some .free)/\∃c,env.cells.lookup x=some c/\h.IsCell c (some u))
structure Cx.Ok (X:Cx):Prop where
 mod:Mod X.K X.mg X.base
 kind:X.env.scope.kind=.function
 glob:X.env.globals=P0
 blt:X.env.builtins=builtinsNs
 above:X.s₀.heap.objs.size<=X.env.locals
 inj:∀x y c,X.env.cells.lookup x=some c->X.env.cells.lookup y=some c->x=y
 has:∀x,(X.env.kindOf x=some .cell\/X.env.kindOf x=some .free)->∃c,X.env.cells.lookup x=some c
 Ke:∀x c,X.fn x=true->X.env.cells.lookup x=some c->X.s₀.heap.objs.size<=c
 hd:X.A.handled=none
 Kf:∀b∈X.ex,b≠X.env.locals/\∀x c,X.env.cells.lookup x=some c->c≠b
 bs:∀b o,X.base.get? b=some o->X.s₀.heap.get? b=some o/\X.H₀ b=none
 bsz:X.base.objs.size<=X.s₀.heap.objs.size
 xJ:∀b o,X.base.get? b=some o->b∉X.ex
abbrev ar:=List (Pf × Obj)
structure Inv (X:Cx) (pins:ar) (φ:Fr) (g:G) (L:Live) (s:OH):Prop where
 ok:X.Ok
 os:s.os=X.s₀.os
 bare:AllBare s.gens
 base:Un X.ex X.H₀ g.H X.s₀.heap s.heap
 loc:∃m,s.heap.Ns X.env.locals m/\∀(i:Nat) (x:Str) (t:T),X.N[i]?=some x->φ[i]?=some (some t)->HB X.env.scope x->∃u,RT g none t u/\Look X.env s.heap m x u
 cell:∀x c,X.env.cells.lookup x=some c->∃v,s.heap.IsCell c v
 free:g.H X.env.locals=none
 jc:∀x c,X.env.cells.lookup x=some c->g.H c=none
 pin:∀p∈pins,s.heap.get? p.1=some p.2/\g.H p.1=none/\p.1≠X.env.locals/\∀v,p.2.data≠.cell v
 hok:HOk g.H s.heap
 len:φ.length=X.N.length
 rel:Rel g L
 gB:g.B=X.base
 gm:g.cls=X.cls
 gw:g.w=X.w
section
variable {X:Cx} {pins:ar} {φ:Fr} {g g':G} {L L':Live} {s:OH} {h':Heap}
theorem Inv.bs (I:Inv X pins φ g L s):∀b o,X.base.get? b=some o->s.heap.get? b=some o/\g.H b=none:=fun b o e =>
 ⟨I.base.keep b o (I.ok.bs b o e).1 (I.ok.bs b o e).2 (I.ok.xJ b o e),I.base.free b o (I.ok.bs b o e).1 (I.ok.bs b o e).2 (I.ok.xJ b o e)⟩
theorem Inv.bk (I:Inv X pins φ g L s):∀b o,X.base.get? b=some o->s.heap.get? b=some o:=fun b o e=>(I.bs b o e).1
theorem Inv.kn (I:Inv X pins φ g L s) {b a o} (h:g.kn b a o):s.heap.get? a=some o:=by
 rcases h with h|⟨_,h⟩
 ·exact I.hok _ _ _ h
 ·exact I.bk _ _ (by rw [<- I.gB];exact h)
theorem Inv.mod (I:Inv X pins φ g L s):Mod X.K X.mg X.base:=I.ok.mod
theorem Inv.DD (I:Inv X pins φ g L s):X.K.In s.heap:=I.ok.mod.zP.keeps I.bk
theorem Inv.nolimit (I:Inv X pins φ g L s):s.heap.NoLimit:=I.ok.mod.nolimit.keeps I.bk
theorem Inv.lt (I:Inv X pins φ g L s):X.env.locals<s.heap.objs.size:=let ⟨_,hn,_⟩:=I.loc;hn.lt
theorem Inv.sz (I:Inv X pins φ g L s):X.s₀.heap.objs.size<=s.heap.objs.size:=Pq I.ok.above (UR I.lt)
theorem Inv.fresh (I:Inv X pins φ g L s):g.H s.heap.objs.size=none:=I.hok.fresh (OR _)
theorem Inv.DE (I:Inv X pins φ g L s):∀x c,X.env.cells.lookup x=some c->c≠X.env.locals:=fun x c e z=>by
 obtain⟨v,o,ho,hd⟩:=I.cell x c e;obtain⟨m,⟨o',es,ep,ho',hd',_⟩,_⟩:=I.loc;rw [z,ho'] at ho;cases ho;rw [hd'] at hd;cases hd
theorem Inv.step {g1:Array GenState} {t':Nat} {d':Drawn} {ch:List Pf} (I:Inv X pins φ g L s) (l:Le g g')
  (tT:∀b∈ch,(b∈X.ex\/X.s₀.heap.objs.size<=b)/\b≠X.env.locals/\(∀x c,X.env.cells.lookup x=some c->c≠b)/\∀p∈pins,p.1≠b)
  (keep:∀b o,b≠X.env.locals->b∉ch->s.heap.get? b=some o->g.H b=none->h'.get? b=some o) (free:∀b o,b∉ch->s.heap.get? b=some o->g.H b=none->g'.H b=none)
  (ns:∀m,s.heap.Ns X.env.locals m->h'.Ns X.env.locals m) (hok:HOk g'.H h') (hg:AllBare g1) (rel:Rel g' L'):Inv X pins φ g' L' { s with heap:=h',gens:=g1,drawn:=d',toks:=t' }:=by
 have Ls:∀b o,X.s₀.heap.get? b=some o->b≠X.env.locals:=fun b o e=>O8 (O5 (O4 e) I.ok.above)
 have Kg:∀b o,X.s₀.heap.get? b=some o->b∉X.ex->b∉ch:=fun b o e hx hb=>by
  rcases(tT b hb).1 with z|z
  ·exact hx z
  ·exact absurd (O5 (O4 e) z) (Qj _)
 have cellK:∀x c,X.env.cells.lookup x=some c->∀v,s.heap.IsCell c v->h'.IsCell c v:=fun x c e v ⟨o,ho,hd⟩ =>
  ⟨o,keep c o (I.DE x c e) (fun z=>(tT c z).2.2.1 x c e rfl) ho (I.jc x c e),hd⟩
 refine⟨I.ok,I.os,hg,⟨fun b o e n hx=>?_,fun b o e n hx=>?_,fun b o e=>l.f b o (I.base.eY b o e)⟩,?_,fun x c e=>?_,?_,fun x c e=>?_,fun p hp=>?_,hok,I.len,rel,l.B.trans I.gB,l.m.trans I.gm,l.w.trans I.gw⟩
 ·exact keep b o (Ls b o e) (Kg b o e hx) (I.base.keep b o e n hx) (I.base.free b o e n hx)
 ·exact free b o (Kg b o e hx) (I.base.keep b o e n hx) (I.base.free b o e n hx)
 ·obtain⟨m,hn,hl⟩:=I.loc
  refine⟨m,ns m hn,fun i x v e1 e2 e3=>?_⟩;obtain⟨u,r,q⟩:=hl i x v e1 e2 e3;refine⟨u,r.le l,?_⟩;rcases q with q|⟨k,c,e,z⟩
  ·exact .inl q
  ·exact .inr ⟨k,c,e,cellK x c e _ z⟩
 ·obtain⟨v,z⟩:=I.cell x c e
  exact⟨v,cellK x c e v z⟩
 ·obtain⟨m,⟨o,_,_,ho,_⟩,_⟩:=I.loc
  exact free _ o (fun z=>(tT _ z).2.1 rfl) ho I.free
 ·obtain⟨v,o,ho,hd⟩:=I.cell x c e
  exact free c o (fun z=>(tT c z).2.2.1 x c e rfl) ho (I.jc x c e)
 ·obtain⟨e,n,ne,d⟩:=I.pin p hp
  have Kh:p.1∉ch:=fun z=>(tT p.1 z).2.2.2 p hp rfl
  exact⟨keep p.1 p.2 ne Kh e n,free p.1 p.2 Kh e n,ne,d⟩
theorem Inv.un {t':Nat} (I:Inv X pins φ g L s) (l:Le g g') (u:Un [] g.H g'.H s.heap h') (hok:HOk g'.H h') (rel:Rel g' L'):Inv X pins φ g' L' { s with heap:=h',toks:=t' }:=by
 obtain⟨m,⟨o,es,ep,ho,r⟩,_⟩:=id I.loc;have hL:=u.keep _ o ho I.free (by simp)
 exact I.step (g1:=s.gens) (d':=s.drawn) (ch:=[]) l (fun _ z=>nomatch z) (fun b o _ _ e n=>u.keep b o e n (by simp)) (fun b o _ e n=>u.free b o e n (by simp)) (fun m' hm=>by
  obtain⟨o',eH,D8,ho',r'⟩:=hm;rw [ho] at ho';cases ho';exact⟨_,eH,D8,hL,r'⟩) hok I.bare rel
theorem Inv.call {s':OH} {ch:List Pf} (I:Inv X pins φ g L s) (l:Le g g') (ho:s'.os=s.os) (u:Un ch g.H g'.H s.heap s'.heap) (hok:HOk g'.H s'.heap) (hg:AllBare s'.gens) (rel:Rel g' L')
  (tT:∀b∈ch,(b∈X.ex\/X.s₀.heap.objs.size<=b)/\b≠X.env.locals/\(∀x c,X.env.cells.lookup x=some c->c≠b)/\∀p∈pins,p.1≠b):Inv X pins φ g' L' s':=by
 obtain⟨hh,g1,d',t',o'⟩:=s';obtain rfl:o'=s.os:=ho;obtain⟨m,⟨o,es,ep,ho,r⟩,_⟩:=id I.loc;have hL:=u.keep _ o ho I.free fun z=>(tT _ z).2.1 rfl
 exact I.step (ch:=ch) l tT (fun b o _ hc e n=>u.keep b o e n hc) (fun b o hc e n=>u.free b o e n hc) (fun m' hm=>by
  obtain⟨o',eH,D8,ho',r'⟩:=hm;rw [ho] at ho';cases ho';exact⟨_,eH,D8,hL,r'⟩) hok hg rel
noncomputable def eI (X:Cx) (pins:ar) (H:Hp) (b:Pf):Prop:=H b=none/\b≠X.env.locals/\(b∈X.ex\/X.s₀.heap.objs.size<=b)/\(∀x c,X.env.cells.lookup x=some c->c≠b)/\∀p∈pins,p.1≠b
theorem Inv.ud {b:Pf} {H':Hp} (I:Inv X pins φ g L s) (hb:s.heap.objs.size<=b) (hn:H' b=none):eI X pins H' b:=by
 refine⟨hn,QX (O5 I.lt hb),.inr (Pq I.sz hb),fun x c e z=>?_,fun p hp z=>?_⟩
 ·obtain⟨v,q⟩:=I.cell x c e
  exact absurd (O5 q.lt (by rw [z];exact hb)) (Qj _)
 ·exact absurd (O5 (O4 (I.pin p hp).1) (by rw [z];exact hb)) (Qj _)
theorem Inv.turned {t':Nat} {ch:List Pf} (I:Inv X pins φ g L s) (k:∀b o,b∉ch->s.heap.get? b=some o->h'.get? b=some o) (hf:∀b∈ch,eI X pins g.H b):Inv X pins φ g L { s with heap:=h',toks:=t' }:=by
 refine I.step (g1:=s.gens) (d':=s.drawn) (ch:=ch) (Le.refl g) (fun b hb=>⟨(hf b hb).2.2.1,(hf b hb).2.1,(hf b hb).2.2.2⟩) (fun b o _ hc e _=>k b o hc e) (fun _ _ _ _ n=>n) (fun m hm=>?_) (fun b c u e=>?_) I.bare I.rel
 ·obtain⟨o,es,ep,ho,r⟩:=hm
  exact⟨o,es,ep,k _ o (fun z=>(hf _ z).2.1 rfl) ho,r⟩
 ·exact k b u (fun z=>by rw [(hf b z).1] at e;cases e) (I.hok b c u e)
theorem Inv.kept {t':Nat} (I:Inv X pins φ g L s) (k:∀b u,s.heap.get? b=some u->h'.get? b=some u):Inv X pins φ g L { s with heap:=h',toks:=t' }:=I.un (Le.refl g) (Un.kept k) (fun a b o e=>k a o (I.hok a b o e)) I.rel
theorem Inv.tok (I:Inv X pins φ g L s) (t:Nat):Inv X pins φ g L { s with toks:=t }:=I.kept (h':=s.heap) fun _ _ e=>e
theorem fO {α:Type}:∀{L:List α} {n:Nat} {c:α},at_ L n=some c->n<L.length
 | c::L,n,d,h=>by
  unfold at_ at h
  split at h
  ·rename_i e;simp [e]
  ·have:=fO h;simp;omega
theorem qH {α:Type} {L:List α} {n:Nat} {c d:α} (h:at_ L n=some c):at_ (d::L) n=some c:=by
 unfold at_
 rw [if_neg (O8 (fO h))];exact h
theorem fW {α:Type} {L:List α} {d:α}:at_ (d::L) L.length=some d:=if_pos rfl
noncomputable def G.lay (g:G) (a:Pf) (o:Obj):G:={ g with H:=upd g.H a (true,o) }
theorem Rel.le {g g':G} (r:Rel g L) (l:Le g g') (e:g'.α=g.α) (k:∀a o,g.H a=some (false,o)->g'.H a=g.H a):Rel g' L:=by
 refine⟨by rw [e];exact r.len,fun n c h=>?_,by rw [e];exact r.apart,fun n p h=>?_⟩
 ·obtain⟨p,h1,h2⟩:=r.cells n c h
  refine⟨p,by rw [e];exact h1,h2.up l fun q z=>?_⟩;cases z;obtain⟨⟨o,e1⟩,o2,e2⟩:=r.live n p h1;exact⟨k _ _ e1,k _ _ e2⟩
 ·rw [e] at h
  obtain⟨⟨o,e1⟩,o2,e2⟩:=r.live n p h;exact⟨⟨o,(k _ _ e1).trans e1⟩,o2,(k _ _ e2).trans e2⟩
theorem Le.lay {a:Pf} {o:Obj} (h:g.H a=none):Le g (g.lay a o):=⟨fun b u e=>by
  have z:b≠a:=fun z=>by rw [z,h] at e;cases e
  exact(az z).trans e,fun _ _ e=>e,rfl,rfl,rfl⟩
theorem Inv.laid {a:Pf} {o:Obj} {t':Nat} (I:Inv X pins φ g L s) (k:∀b u,s.heap.get? b=some u->h'.get? b=some u) (hp:s.heap.objs.size<=a) (new:h'.get? a=some o) :
  Inv X pins φ (g.lay a o) L { s with heap:=h',toks:=t' }:=by
 have hn:=I.hok.fresh hp;refine I.un (Le.lay hn) ⟨fun b u q _ _=>k b u q,fun b u q n _=>?_,(Le.lay hn).f⟩ (fun b c u e=>?_) (I.rel.le (Le.lay hn) rfl fun b u e=>?_)
 ·exact(az (O8 (O5 (O4 q) hp))).trans n
 ·by_cases hb:b=a
  ·subst hb
   have e':some (true,o)=some (c,u):=(ak (H:=g.H)).symm.trans e;cases e';exact new
  ·exact k b u (I.hok b c u ((az hb).symm.trans e))
 ·exact az (fun z=>by rw [z,hn] at e;cases e)
noncomputable def G.new (g:G) (a:Pf) (o:Obj):G:={ g with H:=upd g.H a (false,o),α:=(a,a)::g.α }
theorem Le.new {a:Pf} {o:Obj} (h:g.H a=none):Le g (g.new a o):=⟨fun b u e=>by
  have z:b≠a:=fun z=>by rw [z,h] at e;cases e
  exact(az z).trans e,fun _ _ e=>qH e,rfl,rfl,rfl⟩
theorem Rel.new {a:Pf} {o:Obj} {c:T} (r:Rel g L) (h:g.H a=none) (hc:RT (g.new a o) (some (a,a)) c (.ref a)):Rel (g.new a o) (c::L):=by
 have ne:∀n p,at_ g.α n=some p->p.1≠a/\p.2≠a:=fun n p e=>by
  obtain⟨⟨o1,e1⟩,o2,e2⟩:=r.live n p e;exact⟨fun z=>(by rw [z,h] at e1;cases e1),fun z=>(by rw [z,h] at e2;cases e2)⟩
 refine⟨by simp [G.new,r.len],fun n d e=>?_,fun n m p q e1 e2 D9=>?_,fun n p e=>?_⟩
 ·unfold at_ at e
  split at e
  ·rename_i en
   cases e;exact⟨(a,a),by rw [en,<- r.len];exact fW,hc⟩
  ·obtain⟨p,h1,h2⟩:=r.cells n d e
   refine⟨p,qH h1,h2.up (Le.new h) fun q z=>?_⟩;cases z;exact⟨az (ne n p h1).1,az (ne n p h1).2⟩
 ·have e1':at_ ((a,a)::g.α) n=some p:=e1
  have e2':at_ ((a,a)::g.α) m=some q:=e2
  unfold at_ at e1' e2'
  split at e1'
  ·cases e1'
   split at e2'
   ·omega
   ·have z:=ne m q e2'
    exact⟨Qz z.1,Qz z.2,Qz z.1,Qz z.2⟩
  ·split at e2'
   ·cases e2'
    have z:=ne n p e1';exact⟨z.1,z.1,z.2,z.2⟩
   ·exact r.apart n m p q e1' e2' D9
 ·have e':at_ ((a,a)::g.α) n=some p:=e
  unfold at_ at e'
  split at e'
  ·cases e';exact⟨⟨o,ak⟩,o,ak⟩
  ·obtain⟨⟨o1,h1⟩,o2,h2⟩:=r.live n p e'
   exact⟨⟨o1,(az (ne n p e').1).trans h1⟩,o2,(az (ne n p e').2).trans h2⟩
theorem Inv.new {a:Pf} {o:Obj} {c:T} {t':Nat} (I:Inv X pins φ g L s) (k:∀b u,s.heap.get? b=some u->h'.get? b=some u) (hp:s.heap.objs.size<=a) (new:h'.get? a=some o) (hc:RT (g.new a o) (some (a,a)) c (.ref a)) :
  Inv X pins φ (g.new a o) (c::L) { s with heap:=h',toks:=t' }:=by
 have hn:=I.hok.fresh hp;refine I.un (Le.new hn) ⟨fun b u q _ _=>k b u q,fun b u q n _=>?_,(Le.new hn).f⟩ (fun b c u e=>?_) (I.rel.new hn hc)
 ·exact(az (O8 (O5 (O4 q) hp))).trans n
 ·by_cases hb:b=a
  ·subst hb
   have e':some (false,o)=some (c,u):=(ak (H:=g.H)).symm.trans e;cases e';exact new
  ·exact k b u (I.hok b c u ((az hb).symm.trans e))
noncomputable def G.set (g:G) (a:Pf) (o:Obj):G:={ g with H:=upd g.H a (false,o) }
theorem Le.set {a:Pf} {o u:Obj} (h:g.H a=some (false,u)):Le g (g.set a o):=⟨fun b v e=>by
  have z:b≠a:=fun z=>by rw [z,h] at e;cases e
  exact(az z).trans e,fun _ _ e=>e,rfl,rfl,rfl⟩
theorem ue {α:Type}:∀{L:List α} {n m:Nat} {c d:α},at_ (put L n d) m=some c->(m=n/\c=d)\/(m≠n/\at_ L m=some c)
 | x::L,n,m,c,d,h=>by
  have lp:∀(L:List α),(put L n d).length=L.length:=fun L=>by
   induction L with
   | nil=>rfl
   | cons y L ih=>unfold put;split <;> simp [ih]
  unfold put at h;split at h
  ·rename_i en
   unfold at_ at h ⊢
   split at h
   ·rename_i em;cases h;exact .inl ⟨by omega,rfl⟩
   ·rename_i em;rw [if_neg em];exact .inr ⟨by omega,h⟩
  ·rename_i en
   unfold at_ at h ⊢
   rw [lp] at h;split at h
   ·rename_i em;rw [if_pos em];exact .inr ⟨by omega,h⟩
   ·rename_i em;rw [if_neg em];exact ue h
theorem xK {α:Type} {L:List α} {n:Nat} {d:α}:(put L n d).length=L.length:=by
 induction L with
 | nil=>rfl
 | cons y L ih=>unfold put;split <;> simp [ih]
theorem Inv.set {n:Nat} {p:Pf × Pf} {a:Pf} {o u:Obj} {c:T} {t':Nat} (I:Inv X pins φ g L s) (hp:at_ g.α n=some p) (ha:a=p.1\/a=p.2) (hH:g.H a=some (false,u)) (k:∀b v,b≠a->s.heap.get? b=some v->h'.get? b=some v) (new:h'.get? a=some o)
  (hc:RT (g.set a o) (some p) c (.ref p.1)):Inv X pins φ (g.set a o) (put L n c) { s with heap:=h',toks:=t' }:=by
 have hb:∀b,g.H b=none->b≠a:=fun b n z=>by rw [z,hH] at n;cases n
 refine I.un (Le.set hH) ⟨fun b v q z _=>k b v (hb b z) q,fun b v q z _=>(az (hb b z)).trans z,(Le.set hH).f⟩ (fun b c v e=>?_) ⟨by rw [xK];exact I.rel.len,fun m d e=>?_,I.rel.apart,fun m q e=>?_⟩
 ·by_cases hb:b=a
  ·subst hb
   have e':some (false,o)=some (c,v):=(ak (H:=g.H)).symm.trans e;cases e';exact new
  ·exact k b v hb (I.hok b c v ((az hb).symm.trans e))
 ·rcases ue e with⟨rfl,rfl⟩|⟨hm,e⟩
  ·exact⟨p,hp,hc⟩
  ·obtain⟨q,h1,h2⟩:=I.rel.cells m d e
   refine⟨q,h1,h2.up (Le.set hH) fun q' z=>?_⟩;cases z;have ap:=I.rel.apart m n q p h1 hp hm
   rcases ha with rfl|rfl
   ·exact⟨az ap.1,az ap.2.2.1⟩
   ·exact⟨az ap.2.1,az ap.2.2.2⟩
 ·have sel:∀b v,g.H b=some (false,v)->∃v,upd g.H a (false,o) b=some (false,v):=fun b v e=>by
   by_cases hb:b=a
   ·exact⟨o,by rw [hb];exact ak⟩
   ·exact⟨v,(az hb).trans e⟩
  obtain⟨⟨o1,h1⟩,o2,h2⟩:=I.rel.live m q e;exact⟨sel _ _ h1,sel _ _ h2⟩
theorem Inv.fJ {pins':ar} (I:Inv X pins φ g L s) (h:∀p∈pins',s.heap.get? p.1=some p.2/\g.H p.1=none/\p.1≠X.env.locals/\∀v,p.2.data≠.cell v):Inv X pins' φ g L s:={ I with pin:=h }
end
end M
namespace M
open PySem PySem.Spec PyProof.Rows
abbrev F0:OE->OH->Prop:=fun _ _=>False
theorem a7 {α:Type} {t:Sem α} {Q Q':α->OH->Prop} {Md:Model} {A:Pm} {E:OE->OH->Prop} {s:OH} (h:O3 Md A t Q F0 s) (hQ:∀a s,Q a s->Q' a s):O3 Md A t Q' E s:=wpAny_mono h hQ fun _ _ z=>z.elim
noncomputable def EP (X:Cx) (pins:ar) (φ:Fr) (g:G) (w:T) (L':Live) (u:OE) (s':OH):Prop:=∃g',Le g g'/\Inv X pins φ g' L' s'/\RT g' none w u
noncomputable def AP (X:Cx) (pins:ar) (φ:Fr) (g:G) (w:List T) (L':Live) (u:List OE) (s':OH):Prop:=∃g',Le g g'/\Inv X pins φ g' L' s'/\bz g' w u
noncomputable def TP (X:Cx) (pins:ar) (φ:Fr) (g:G) (w:Bool) (L':Live) (b:Bool) (s':OH):Prop:=∃g',Le g g'/\Inv X pins φ g' L' s'/\b=w
noncomputable def SP (X:Cx) (pins:ar) (g:G) (o:O) (f:Flow) (s':OH):Prop:=∃g',Le g g'/\match o,f with
 | .nx φ L,.next=>Inv X pins φ g' L s'
 | .bk φ L,.brk=>Inv X pins φ g' L s'
 | .ct φ L,.cont=>Inv X pins φ g' L s'
 | .rt t L,.ret u=>(∃φ,Inv X pins φ g' L s')/\RT g' none t u
 | _,_=>False
noncomputable def PE (X:Cx) (e:Expr) (m:SE):Prop:=∀{pins:ar} {φ:Fr} {g:G} {L:Live} {s:OH} {w:T} {L':Live},Inv X pins φ g L s->m φ L=.ok w L'->O3 (model X.prog X.w) X.A (eval e X.env) (EP X pins φ g w L') F0 s
noncomputable def PT (X:Cx) (e:Expr) (m:ST):Prop:=∀{pins:ar} {φ:Fr} {g:G} {L:Live} {s:OH} {w:Bool} {L':Live} (whole:Sem OE),(whole=eval e X.env\/∃op es p,e=.BoolOp op es p)->Inv X pins φ g L s->m φ L=.ok w L'->O3 (model X.prog X.w) X.A (isTrue e X.env whole) (TP X pins φ g w L') F0 s
noncomputable def PA (X:Cx) (es:List Expr) (m:SA):Prop:=∀{pins:ar} {φ:Fr} {g:G} {L:Live} {s:OH} {w:List T} {L':Live} (pos:Pos),Inv X pins φ g L s->m φ L=.ok w L'->O3 (model X.prog X.w) X.A (spliced (backTo pos (starEach es X.env))) (AP X pins φ g w L') F0 s
noncomputable def PS (X:Cx) (st:Stmt) (m:SS):Prop:=∀{pins:ar} {φ:Fr} {g:G} {L:Live} {s:OH},Inv X pins φ g L s->m φ L≠.bad->O3 (model X.prog X.w) X.A (exec st X.env) (SP X pins g (m φ L)) F0 s
noncomputable def xw (X:Cx) (st:List Stmt) (m:SS):Prop:=∀{pins:ar} {φ:Fr} {g:G} {L:Live} {s:OH},Inv X pins φ g L s->m φ L≠.bad->O3 (model X.prog X.w) X.A (execs st X.env) (SP X pins g (m φ L)) F0 s
noncomputable def xx (X:Cx) (f:OE->OE->Sem OE) (m:T->T->Live->R T):Prop:=∀{pins:ar} {φ:Fr} {g:G} {L:Live} {s:OH} {x y w:T} {L':Live} {u v:OE},Inv X pins φ g L s->RT g none x u->RT g none y v->m x y L=.ok w L'->O3 (model X.prog X.w) X.A (f u v) (EP X pins φ g w L') F0 s
noncomputable def dN (X:Cx) (f:OE) (m:Fn):Prop:=∀{pins:ar} {φ:Fr} {g:G} {L:Live} {s:OH} {xs:List T} {w:T} {L':Live} {us:List OE},Inv X pins φ g L s->bz g xs us->m xs L=.ok w L'->O3 (model X.prog X.w) X.A (call f us) (EP X pins φ g w L') F0 s
section
variable {X:Cx} {pins:ar} {φ:Fr} {g g1:G} {L L':Live} {s s':OH} {w:T} {u:OE} {e a b:Expr} {es:List Expr} {m ma mb:SE} {pos:Pos} {x:Str}
theorem EP.le (h:EP X pins φ g1 w L' u s') (l:Le g g1):EP X pins φ g w L' u s':=let ⟨g',k,r⟩:=h;⟨g',l.trans k,r⟩
theorem SP.le {o:O} {f:Flow} (h:SP X pins g1 o f s') (l:Le g g1):SP X pins g o f s':=let ⟨g',k,r⟩:=h;⟨g',l.trans k,r⟩
theorem Inv.ep (I:Inv X pins φ g L s) (r:RT g none w u):EP X pins φ g w L u s:=⟨g,.refl g,I,r⟩
theorem two {f:T->T->Live->R T} (ha:PE X a ma) (hb:PE X b mb) (I:Inv X pins φ g L s) (h:b2 ma mb f φ L=.ok w L') {α:Type} {Q:α->OH->Prop} {F:OE->OE->Sem α}
  (hf:∀{g' x y L2 u v s2},Le g g'->Inv X pins φ g' L2 s2->RT g' none x u->RT g' none y v->f x y L2=.ok w L'->O3 (model X.prog X.w) X.A (F u v) Q F0 s2) :
  O3 (model X.prog X.w) X.A (eval a X.env) (fun u s₁=>O3 (model X.prog X.w) X.A (eval b X.env) (fun v s₂=>O3 (model X.prog X.w) X.A (F u v) Q F0 s₂) F0 s₁) F0 s:=by
 obtain⟨x,L1,e1,h⟩:=R.of h;obtain⟨y,L2,e2,h⟩:=R.of h;refine a7 (ha I e1) fun u s1 ⟨g1,l1,I1,r1⟩=>a7 (hb I1 e2) fun v s2 ⟨g2,l2,I2,r2⟩=>hf (l1.trans l2) I2 (r1.le l2) r2 h
theorem AL {i:Nat} (hN:X.N[i]?=some x) (hv:HB X.env.scope x) (hd:(x == ("__debug__":Str))=false) (hcd:(x == ("__classdict__":Str))=false):PE X (.Name x pos) (v i):=by
 intro pins φ g L s w L' I h;unfold v at h;cases e:φ[i]? with
 | none=>rw [e] at h;cases h
 | some o =>
  cases o with
  | none=>rw [e] at h;cases h
  | some t =>
   rw [e] at h;cases h;obtain⟨m,hn,hl⟩:=I.loc;obtain⟨u,r,l⟩:=hl i x _ hN e hv;have fin:=I.ep r
   rcases l with⟨hk,hm⟩|⟨hk,c,hc,hcell⟩
   ·exact wpAny_Name (wpAny_loadName_local I.ok.kind hk hn hm fin) hd
   ·rcases hk with hk|hk
    ·exact wpAny_Name (wpAny_loadName_cell I.ok.kind hk hc hcell fin) hd
    ·exact wpAny_Name (wpAny_loadName_free I.ok.kind hk hc hcell fin hcd) hd
theorem cz:PE X e no:=fun _ h=>by cases h
theorem AM {i:Int} {j:Nat}:PE X (.Constant (.int i) j pos) (c (.int i)):=fun I h=>by cases h;exact wpAny_Constant_int ((I.tok _).ep (.int i _))
theorem Ea {b:Bool} {j:Nat}:PE X (.Constant (.bool b) j pos) (c (.bl b)):=fun I h=>by cases h;exact Constant_bool (I.ep (.bl b))
theorem AO {j:Nat}:PE X (.Constant .none j pos) (c .bK):=fun I h=>by cases h;exact Constant_none (I.ep .bK)
theorem AQ {x:Str} {j:Nat} (hz:x.cps.toList.length<=O6):PE X (.Constant (.str x) j pos) (c (.str x.cps.toList)):=fun I h=>by cases h;exact TL ((I.tok _).ep (.str _ _ hz))
abbrev Gl (X:Cx) (x:Str):Prop:=X.env.kindOf x=some .globalImplicit
theorem eK {Q:OE->OH->Prop} (I:Inv X pins φ g L s) (hg:Gl X x) (hm:X.mg x=some u) (h:Q u s) (hd:(x == ("__debug__":Str))=false):O3 (model X.prog X.w) X.A (eval (.Name x pos) X.env) Q F0 s :=
 RW I.ok.kind hg (Uj (by rw [I.ok.glob];exact I.mod.glob.keeps I.bk) hm h) hd
theorem eL {Q:OE->OH->Prop} (I:Inv X pins φ g L s) (hg:Gl X x) (hm:X.mg x=none) (hv:bootBuiltins x=some u) (h:Q u s) (hn:x≠"__name__") (hd:(x == ("__debug__":Str))=false):O3 (model X.prog X.w) X.A (eval (.Name x pos) X.env) Q F0 s:=by
 obtain⟨mb,h1,h2⟩:=I.mod.blt;exact RW I.ok.kind hg (Calls.loadGlobal_builtin (by rw [I.ok.glob];exact I.mod.glob.keeps I.bk) hm (by rw [I.ok.blt];exact h1.keeps I.bk) ((h2 x hn).trans hv) h) hd
noncomputable def Ki (X:Cx) (t:T) (u:OE):Prop:=∀g:G,g.B=X.base->g.cls=X.cls->g.w=X.w->RT g none t u
theorem AR {t:T} (hg:Gl X x) (hm:X.mg x=some u) (r:Ki X t u) (hd:(x == ("__debug__":Str))=false):PE X (.Name x pos) (c t):=fun I h=>by cases h;exact eK I hg hm (I.ep (r _ I.gB I.gm I.gw)) hd
theorem AS {t:T} (hg:Gl X x) (hm:X.mg x=none) (hv:bootBuiltins x=some u) (r:Ki X t u) (hn:x≠"__name__") (hd:(x == ("__debug__":Str))=false):PE X (.Name x pos) (c t):=fun I h=>by cases h;exact eL I hg hm hv (I.ep (r _ I.gB I.gm I.gw)) hn hd
theorem AU {op:Operator} {f:T->T->Live->R T} (ho:xx X (binaryOp op) f) (ha:PE X a ma) (hb:PE X b mb):PE X (.BinOp a op b pos) (b2 ma mb f):=fun I h =>
 wpAny_BinOp (two ha hb I h fun l I r1 r2 h=>a7 (ho I r1 r2 h) fun _ _ z=>z.le l)
theorem AV {op:CmpOp} {f:T->T->Live->R T} (ho:xx X (compareOp op) f) (ha:PE X a ma) (hb:PE X b mb) (hm:behindInMarks op b=false):PE X (.Compare a [op] [b] pos) (b2 ma mb f):=fun I h =>
 wpAny_Compare1 (two ha hb I h fun l I r1 r2 h=>a7 (ho I r1 r2 h) fun _ _ z=>z.le l) hm
theorem Eb {f:T->T->Live->R T} (ho:xx X (fun o i=>subscriptTail a b o i) f) (ha:PE X a ma) (hb:PE X b mb):PE X (.Subscript a b pos) (b2 ma mb f):=fun I h =>
 Subscript_ (two ha hb I h fun l I r1 r2 h=>a7 (ho I r1 r2 h) fun _ _ z=>z.le l)
theorem zQ {a:SE} {φ L b L'} (h:tv a φ L=.ok b L'):a φ L=.ok (.bl b) L':=by
 obtain⟨x,L1,e1,h⟩:=R.of h;cases x <;> first|cases h|skip
 exact e1
theorem oZ {α β:Type} {f:α->β} {r:R α} {b:β} {L:Live} (h:r.map f=.ok b L):∃a,r=.ok a L/\f a=b:=by
 cases r with
 | bad=>cases h
 | ok a L1=>cases h;exact⟨a,rfl,rfl⟩
theorem qI:PT X e no:=fun _ _ _ h=>by cases h
theorem AW (h:PE X e m) (he:∀whole,isTrue e X.env whole=(do let v <- whole;standAt e.pos;holding [v] (truthy v))) (hb:∀op es p,e≠.BoolOp op es p):PT X e (tv m):=fun {_ _ _ _ _ _ _} whole hw I q=>by
 rcases hw with rfl|⟨_,_,_,z⟩
 ·exact isTrue_plain (a7 (h I (zQ q)) fun v s1 ⟨g1,l1,I1,r1⟩=>by obtain rfl:=r1.bI;exact wpAny_truthy_bool ⟨g1,l1,I1,rfl⟩) (he _)
 ·exact absurd z (hb _ _ _)
theorem AX {m:ST} (ha:PT X a m):PT X (.UnaryOp .Not a pos) (eG m):=fun {_ _ _ _ _ _ _} whole _ I h=>by
 obtain⟨b,e,rfl⟩:=oZ h;exact isTrue_not (a7 (ha _ (.inl rfl) I e) fun _ _ ⟨g1,l1,I1,e1⟩=>⟨g1,l1,I1,by rw [e1]⟩)
theorem xM {m:ST} (ha:PT X a m):PT X (.BoolOp .And [a] pos) m:=fun {_ _ _ _ _ _ _} whole _ I h=>by
 refine isTrue_and (a7 (ha _ (.inl rfl) I h) fun c s1 e=>?_);cases c with
 | true=>exact isTrue_and_nil e
 | false=>exact e
theorem AY {m:ST} (ha:PT X a m):PT X (.BoolOp .Or [a] pos) m:=fun {_ _ _ _ _ _ _} whole _ I h=>by
 refine isTrue_or (a7 (ha _ (.inl rfl) I h) fun c s1 e=>?_);cases c with
 | true=>exact e
 | false=>exact isTrue_or_nil e
theorem AZ {ma mb:ST} (ha:PT X a ma) (hb:PT X (.BoolOp .And (b::es) pos) mb):PT X (.BoolOp .And (a::b::es) pos) (xF ma mb):=fun {_ _ _ _ _ _ _} whole _ I h=>by
 obtain⟨k,L1,e,h⟩:=R.of h;refine isTrue_and (a7 (ha _ (.inl rfl) I e) fun c s1 ⟨g1,l1,I1,e1⟩=>?_);subst e1;cases c with
 | true=>exact a7 (hb whole (.inr ⟨_,_,_,rfl⟩) I1 h) fun _ _ ⟨g2,l2,r⟩=>⟨g2,l1.trans l2,r⟩
 | false=>cases h;exact⟨g1,l1,I1,rfl⟩
theorem Ec {ma mb:ST} (ha:PT X a ma) (hb:PT X (.BoolOp .Or (b::es) pos) mb):PT X (.BoolOp .Or (a::b::es) pos) (Hf ma mb):=fun {_ _ _ _ _ _ _} whole _ I h=>by
 obtain⟨k,L1,e,h⟩:=R.of h;refine isTrue_or (a7 (ha _ (.inl rfl) I e) fun c s1 ⟨g1,l1,I1,e1⟩=>?_);subst e1;cases c with
 | false=>exact a7 (hb whole (.inr ⟨_,_,_,rfl⟩) I1 h) fun _ _ ⟨g2,l2,r⟩=>⟨g2,l1.trans l2,r⟩
 | true=>cases h;exact⟨g1,l1,I1,rfl⟩
theorem A0 {op:CmpOp} {f:T->T->Live->R T} (ho:xx X (compareOp op) f) (ha:PE X a ma) (hb:PE X b mb) (hm:behindInMarks op b=false):PT X (.Compare a [op] [b] pos) (tv (b2 ma mb f)):=fun {_ _ _ _ _ _ _} whole _ I h =>
 wpAny_isTrue_Compare1 (two ha hb I (zQ h) fun l I r1 r2 h=>a7 (ho I r1 r2 h) fun _ _ ⟨g1,l1,I1,r1⟩=>by obtain rfl:=r1.bI;exact wpAny_truthy_bool ⟨g1,l.trans l1,I1,rfl⟩) hm
noncomputable def aC:Expr->Bool
 | .Starred ..=>false
 | _=>true
theorem ah {env:Env} (h:aC e=true):starEach (e::es) env=(false,eval e env)::starEach es env:=by
 cases e <;> first|rfl|cases h
theorem lJ:PA X [] (d5 []):=fun {_ _ _ _ _ _ _} _ I h=>by cases h;exact SD ⟨_,.refl _,I,.nil⟩
theorem gE {ms:List SE} (ha:PE X e m) (hr:PA X es (d5 ms)) (hs:aC e=true):PA X (e::es) (d5 (m::ms)):=fun {_ _ _ _ _ _ _} pos I h=>by
 obtain⟨t,L1,e1,h⟩:=R.of h;obtain⟨ts,L2,e2,h⟩:=R.of h;cases h;rw [ah hs];show O3 _ _ (spliced ((false,eval e X.env)::backTo pos (starEach es X.env))) _ _ _
 exact R9 (a7 (ha I e1) fun u s1 ⟨g1,l1,I1,r1⟩=>a7 (hr pos I1 e2) fun us s2 ⟨g2,l2,I2,r2⟩=>⟨g2,l1.trans l2,I2,.cons (r1.le l2) r2⟩)
theorem bz.lst {us:List OE} {xs:List T} {p:Option (Pf × Pf)} {a:Pf} {n:Nat} {o:Obj} (r:bz g xs us) (l:Le g g1) (ht:qG p a a) (hk:g1.kn p.isNone a { cls:=.type "list",data:=.seq us.toArray n }) (hz:xs.length<=O6):RT g1 p (.lst xs) (.ref a) :=
 .lst ht hk hz (by simpa using OX r) fun i x v e1 e2=>(oV r i x v e1 (by simpa using e2)).le l
theorem jd {fz:Bool} {xs:List T} {us:List OE} {L2:Live} {t' n:Nat} {h':Heap} (I:Inv X pins φ g L s) (r:bz g xs us) (h:eE fz xs L=.ok w L2) (k:∀b u,s.heap.get? b=some u->h'.get? b=some u) (new:h'.get? s.heap.objs.size=some { cls:=.type "list",data:=.seq us.toArray n }) :
  EP X pins φ g w L2 (.ref s.heap.objs.size) { s with heap:=h',toks:=t' }:=by
 unfold eE bD at h;split at h
 ·rename_i hz
  unfold mk at h;split at h
  ·cases h
   exact⟨_,Le.lay I.fresh,I.laid k (OR _) new,r.lst (n:=n) (o:=default) (Le.lay I.fresh) (.inl rfl) (.inl ak) hz⟩
  ·cases h
   refine⟨_,Le.new I.fresh,I.new k (OR _) new (r.lst (n:=n) (o:=default) (Le.new I.fresh) (.inr rfl) (.inl ak) hz),?_⟩;have:=I.rel.len
   exact .ref (p:=(s.heap.objs.size,s.heap.objs.size)) (by show at_ ((_,_)::g.α) _=_;rw [<- this];exact fW)
 ·cases h
theorem qJ {fz:Bool} {xs:List T} {L2:Live} (h:eE fz xs L=.ok w L2):xs.length<=O6:=by
 unfold eE bD at h;split at h
 ·assumption
 ·cases h
theorem A1 {ms:List SE} {fz:Bool} (h:PA X es (d5 ms)):PE X (.List es pos) (lst fz ms):=fun I q=>by
 obtain⟨ts,L1,e1,q⟩:=R.of q;refine wpAny_List_spliced (a7 (h pos I e1) fun us s1 ⟨g1,l1,I1,r⟩=>⟨by rw [<- OX r];exact qJ q,?_⟩);exact(jd (t':=s1.toks) I1 r q (fun b u e=>OJ _ e) (OM _ rfl)).le l1
theorem bz.tup {us:List OE} {xs:List T} {a:Pf} {n:Nat} {o:Obj} (r:bz g xs us) (l:Le g g1) (hk:g1.kn true a o) (hc:o.cls=.type "tuple"/\o.dict=none) (hd:o.data=.seq us.toArray n) (hz:xs.length<=O6):RT g1 none (.tup xs) (.ref a) :=
 .tup hk hc hd hz (by simpa using OX r) fun i x v e1 e2=>(oV r i x v e1 (by simpa using e2)).le l
theorem A2 {ms:List SE} {k:Nat} (h:PA X es (d5 ms)) (hz:es.length<=O6) (hl:es.length=ms.length):PE X (.Tuple es k pos) (tup ms):=fun I q=>by
 obtain⟨ts,L1,e1,q⟩:=R.of q;cases q;have len:∀{ms:List SE} {φ L ts L1},d5 ms φ L=.ok ts L1->ts.length=ms.length:=fun {ms}=>by
  induction ms with
  | nil=>intro φ L ts L1 h;cases h;rfl
  | cons m ms ih =>
   intro φ L ts L1 h;obtain⟨t,L1,e1,h⟩:=R.of h;obtain⟨ts,L2,e2,h⟩:=R.of h;cases h;simp [ih e2]
 have hz':ts.length<=O6:=by rw [len e1,<- hl];exact hz
 refine wpAny_Tuple_spliced (a7 (h pos I e1) fun us s1 ⟨g1,l1,I1,r⟩=>⟨by rw [<- OX r];exact hz',?_⟩);exact⟨_,l1.trans (Le.lay I1.fresh),I1.laid (t':=s1.toks) (fun b u e=>OJ _ e) (OR _) (OM _ rfl),r.tup (Le.lay I1.fresh) (.inl ak) ⟨rfl,rfl⟩ rfl hz'⟩
end
section
variable {X:Cx} {pins:ar} {φ:Fr} {g g1:G} {L L':Live} {s s':OH} {w:T} {u:OE} {e a b:Expr} {es:List Expr} {m ma mb:SE} {pos:Pos} {x:Str} {st:Stmt} {rest:List Stmt} {ms m1 m2:SS}
theorem uf:PS X st j9:=fun _ h=>absurd rfl h
theorem xN:xw X [] (af []):=fun I _=>wpAny_execs_nil ⟨_,.refl _,I⟩
theorem ug {r:List SS} (h1:PS X st ms) (h2:xw X rest (af r)):xw X (st::rest) (af (ms::r)):=fun {pins φ g L s} I h=>by
 have e:af (ms::r) φ L=(ms φ L).next (af r):=rfl
 rw [e] at h ⊢;refine wpAny_execs_cons (a7 (h1 I fun z=>h (by rw [z];rfl)) fun f s1 q=>?_);cases o:ms φ L with
 | bad=>rw [o] at h;exact absurd rfl h
 | nx φ1 L1 =>
  rw [o] at q h;obtain⟨g',l,q⟩:=q;cases f <;> first|exact q.elim|skip
  exact a7 (h2 q h) fun _ _ z=>z.le l
 | _ =>
  rw [o] at q;obtain⟨g',l,q⟩:=q;cases f <;> first|exact q.elim|exact⟨g',l,q⟩
theorem xO:PS X (.Pass pos) pass:=fun I _=>wpAny_Pass ⟨_,.refl _,I⟩
theorem Inv.quiet (I:Inv X pins φ g L s):interactive X.env=false:=by simp [interactive,I.ok.kind]
theorem gF {α:Type} {r:R α} {f:α->Live->O} (h:O.of r f≠.bad):∃a L,r=.ok a L/\O.of r f=f a L/\f a L≠.bad:=by
 cases r with
 | bad=>exact absurd rfl h
 | ok a L=>exact⟨a,L,rfl,rfl,h⟩
noncomputable def fP:Expr->Bool
 | .ListComp ..=>false
 | .SetComp ..=>false
 | .DictComp ..=>false
 | _=>true
theorem fq {t:Option Expr} {l:Nat} {env:Env} (h:fP e=true):swapsWith e t l env=pure false:=by
 cases e <;> first|rfl|cases h
theorem A3 (he:PE X e m) (hs:fP e=true):PS X (.Expr e pos) (ja m):=fun I h=>by
 obtain⟨t,L1,e1,e2,h⟩:=gF h;rw [show ja m _ _=_ from e2];exact wpAny_Expr_any (a7 (he I e1) fun v s1 ⟨g1,l1,I1,r1⟩=>⟨g1,l1,I1⟩) I.quiet (fq hs)
theorem A4 (he:PE X e m):PS X (.Return (some e) pos) (ret m):=fun I h=>by
 obtain⟨t,L1,e1,e2,h⟩:=gF h;rw [show ret m _ _=_ from e2];exact wpAny_Return_some (a7 (he I e1) fun v s1 ⟨g1,l1,I1,r1⟩=>⟨g1,l1,⟨_,I1⟩,r1⟩)
theorem xP:PS X (.Return none pos) (ret (c .bK)):=fun I _=>wpAny_Return_none ⟨_,.refl _,⟨_,I⟩,.bK⟩
theorem Ed {k:Expr} {mk:ST} {sa sb:List Stmt} (hk:PT X k mk) (ha:xw X sa m1) (hb:xw X sb m2):PS X (.If k sa sb pos) (iff mk m1 m2):=fun I h=>by
 obtain⟨k,L1,e1,e2,h⟩:=gF h;rw [show iff mk m1 m2 _ _=_ from e2];refine wpAny_If (a7 (hk _ (.inl rfl) I e1) fun d s1 ⟨g1,l1,I1,e⟩=>?_);subst e;cases d with
 | true=>exact a7 (ha I1 h) fun _ _ z=>z.le l1
 | false=>exact a7 (hb I1 h) fun _ _ z=>z.le l1
theorem nj {N:List Str} (hN:N.Nodup) {i j:Nat} {x:Str} (a:N[i]?=some x) (b:N[j]?=some x):i=j:=by
 obtain⟨h1,e1⟩:=OY.mp a;obtain⟨h2,e2⟩:=OY.mp b;exact(List.getElem_inj hN).mp (e1.trans e2.symm)
structure o8 (X:Cx) (i:Nat) (x:Str):Prop where
 nd:X.N.Nodup
 ix:X.N[i]?=some x
 loc:Loc X.env.scope x
 fn:X.fn x=true\/X.env.scope.names.lookup x=some .local
theorem d7 {Md:Model} {A:Pm} {E:OE->OH->Prop} {i:Nat} {t:T} {Q:Unit->OH->Prop} (I:Inv X pins φ g L s) (S:o8 X i x) (r:RT g none t u)
  (h:∀s',Inv X pins (φ.set i (some t)) g L s'->(∃a,Rd a s.heap s'.heap/\(a=X.env.locals\/X.env.cells.lookup x=some a))->Q () s'):O3 Md A (storeName X.env x u) Q E s:=by
 obtain⟨m,hn,hl⟩:=id I.loc;have HC:(X.env.scope.kind == .class || (X.env.scope.kind == .module && X.env.locals != X.env.globals))=false:=by rw [I.ok.kind];rfl
 have Kj:i<φ.length:=by rw [I.len];exact(OY.mp S.ix).1
 have DE:=I.DE;have tracked:∀{a:Pf} {h':Heap},g.H a=none->Rd a s.heap h'->HOk g.H h':=fun {a h'} hf hs b c o e=>(hs.2 b fun z=>by rw [z,hf] at e;cases e).trans (I.hok b c o e)
 have Ee:∀{a:Pf} {h':Heap},X.s₀.heap.objs.size<=a->Rd a s.heap h'->Un X.ex X.H₀ g.H X.s₀.heap h':=fun {a h'} ha hs =>
  ⟨fun b o e n hx=>(hs.2 b (O8 (O5 (O4 e) ha))).trans (I.base.keep b o e n hx),I.base.free,I.base.eY⟩
 rcases S.loc with hk|hk
 ·refine wpAny_storeName_local hk hn (fun h' hn' hs=>?_) HC
  refine h _ { I with base:=Ee I.ok.above hs,loc:=⟨_,hn',fun j y v' e1 e2 e3=>?_⟩,cell:=fun y c e=>?_,pin:=fun p hp=>?_,hok:=tracked I.free hs,len:=by simpa using I.len } ⟨_,hs,.inl rfl⟩
  ·by_cases hj:j=i
   ·subst hj
    rw [S.ix] at e1;cases e1;rw [RI Kj] at e2;cases e2;exact⟨u,r,.inl ⟨hk,by simp⟩⟩
   ·rw [S5 (Qz hj)] at e2
    obtain⟨u',r',q⟩:=hl j y v' e1 e2 e3;refine⟨u',r',?_⟩;rcases q with⟨k,e⟩|⟨k,c,e,z⟩
    ·refine .inl ⟨k,?_⟩
     have:y≠x:=fun e=>hj (nj S.nd e1 (e ▸ S.ix))
     simp [this,e]
    ·exact .inr ⟨k,c,e,z.sameBut hs (DE y c e)⟩
  ·obtain⟨w',z⟩:=I.cell y c e
   exact⟨w',z.sameBut hs (DE y c e)⟩
  ·obtain⟨e,n,ne,d⟩:=I.pin p hp
   exact⟨(hs.2 p.1 ne).trans e,n,ne,d⟩
 ·have HD:X.fn x=true:=by
   rcases S.fn with z|z
   ·exact z
   ·rw [z] at hk;cases hk
  obtain⟨c,hc⟩:=I.ok.has x (.inl hk);obtain⟨w',z⟩:=I.cell x c hc;refine wpAny_storeName_cell I.ok.kind hk hc z (fun h' hc' hs=>?_);obtain⟨oc,Lu,HE⟩:=id z;refine h { s with heap:=h' } { I with base:=Ee (I.ok.Ke x c HD hc) hs,loc:=⟨m,hn.sameBut hs (Qz (DE x c hc)),fun j y v' e1 e2 e3=>?_⟩,cell:=fun y c' e=>?_,pin:=fun p hp=>?_,hok:=tracked (I.jc x c hc) hs,len:=by simpa using I.len } ⟨c,hs,.inr hc⟩
  ·by_cases hj:j=i
   ·subst hj
    rw [S.ix] at e1;cases e1;rw [RI Kj] at e2;cases e2;exact⟨u,r,.inr ⟨.inl hk,c,hc,hc'⟩⟩
   ·rw [S5 (Qz hj)] at e2
    obtain⟨u',r',q⟩:=hl j y v' e1 e2 e3;refine⟨u',r',?_⟩;rcases q with q|⟨k,c',e,z'⟩
    ·exact .inl q
    ·refine .inr ⟨k,c',e,z'.sameBut hs ?_⟩
     rintro rfl;exact hj (nj S.nd e1 (I.ok.inj _ _ _ e hc ▸ S.ix))
  ·by_cases DF:c'=c
   ·subst DF;exact⟨_,hc'⟩
   ·obtain⟨w2,z2⟩:=I.cell y c' e
    exact⟨w2,z2.sameBut hs DF⟩
  ·obtain⟨e,n,ne,d⟩:=I.pin p hp
   refine⟨(hs.2 p.1 ?_).trans e,n,ne,d⟩;intro q;rw [q,Lu] at e;have q':oc=p.2:=Qq e
   exact d w' (by rw [<- q'];exact HE)
noncomputable def PG (X:Cx) (tg:Expr) (m:Tg):Prop:=∀{pins:ar} {φ φ':Fr} {g:G} {L:Live} {s:OH} {t:T} {u:OE},Inv X pins φ g L s->RT g none t u->m.set t φ=some φ'->O3 (model X.prog X.w) X.A (assign tg X.env u) (fun _ s'=>Inv X pins φ' g L s') F0 s
theorem lK {i:Nat} (S:o8 X i x):PG X (.Name x pos) (.one i):=fun I r h=>by cases h;exact wpAny_assign_Name (d7 I S r fun s' I' _=>I')
theorem Inv.tup {xs:List T} (I:Inv X pins φ g L s) (r:RT g none (.tup xs) u):∃a its,u=.ref a/\IsTup s.heap a its/\bz g xs its.toList/\xs.length<=O6:=by
 cases r with
 | tup hk hc hd hz hl hi=>exact⟨_,_,rfl,⟨_,I.kn hk,hc.1,_,hd⟩,cC (by simpa using hl) fun i x v e1 e2=>hi i x v e1 (by simpa using e2),hz⟩
theorem uh {tg:Expr} {t:Tg} (he:PE X e m) (hg:PG X tg t) (hs:swapsWithSole [tg] e pos.line X.env=pure false) (hw:swappedStores [tg] e X.env=pure none) (h1:(assignEach [tg] X.env).map (·.2)=[assign tg X.env]):PS X (.Assign [tg] e pos) (asg t m):=fun {pins φ g L s} I h=>by
 obtain⟨v,L1,e1,e2,h⟩:=gF h;cases ef:t.set v φ with
 | none=>simp only [ef] at h;exact absurd rfl h
 | some φ1 =>
  have e3:asg t m φ L=.nx φ1 L1:=by
   rw [show asg t m φ L=_ from e2];simp only [ef]
  rw [e3];refine wpAny_Assign_stores (a7 (he I e1) fun v s1 ⟨g1,l1,I1,r1⟩=>?_) hs hw;rw [h1];exact a7 (hg I1 r1 ef) fun _ s2 q=>⟨g1,l1,q⟩
end
section
variable {X:Cx} {pins:ar} {φ:Fr} {g g1:G} {L L':Live} {s s':OH} {w t:T} {u:OE} {e a b:Expr} {es:List Expr} {m ma mb:SE} {pos:Pos} {x:Str} {h':Heap} {xs:List T}
theorem lL {α:Type}:∀{L:List α} {n:Nat},n<L.length->∃c,at_ L n=some c
 | c::L,n,h=>by
  unfold at_
  split
  ·exact⟨c,rfl⟩
  ·exact lL (by simp at h;omega)
theorem Inv.view (I:Inv X pins φ g L s) (r:RT g none t u):∃p,RT g p (vw L t) u:=by
 cases r with
 | ref h =>
  rename_i n p;obtain⟨c,hc⟩:=lL (L:=L) (by rw [<- I.rel.len];exact fO h);obtain⟨q,h1,h2⟩:=I.rel.cells n c hc;rw [h] at h1;cases h1;exact⟨_,by show RT g _ ((at_ L n).getD .bK) _;rw [hc];exact h2⟩
 | _=>exact⟨none,by first|exact .bK|exact .bl _|exact .int _ _|exact .str _ _ (by assumption)|exact .ty _|exact .own (by assumption)|exact .tup (by assumption) (by assumption) (by assumption) (by assumption) (by assumption) (by assumption)|exact .lst (by assumption) (by assumption) (by assumption) (by assumption) (by assumption)|exact .aO (by assumption) (by assumption) (by assumption) (by assumption) (by assumption) (by assumption) (by assumption) (by assumption) (by assumption) (by assumption) (by assumption)|exact .obj (by assumption) (by assumption) (by assumption) (by assumption) (by assumption) (by assumption) (by assumption) (by assumption) (by assumption) (by assumption) (by assumption) (by assumption)⟩
theorem Inv.lst {p:Option (Pf × Pf)} (I:Inv X pins φ g L s) (r:RT g p (.lst xs) u):∃a its n,u=.ref a/\s.heap.get? a=some { cls:=.type "list",data:=.seq its n }/\bz g xs its.toList/\xs.length<=O6:=by
 cases r with
 | lst ht hk hz hl hi=>exact⟨_,_,_,rfl,I.kn hk,cC (by simpa using hl) fun i x v e1 e2=>hi i x v e1 (by simpa using e2),hz⟩
theorem Inv.tupP {p:Option (Pf × Pf)} (I:Inv X pins φ g L s) (r:RT g p (.tup xs) u):∃a its,u=.ref a/\IsTup s.heap a its/\bz g xs its.toList/\xs.length<=O6:=by
 obtain⟨_,_,_,_,_,rfl,hk,hc,hd,hz,hl,hi⟩:=r.tI;exact⟨_,_,rfl,⟨_,I.kn hk,hc.1,_,hd⟩,cC (by simpa using hl) fun i x v e1 e2=>hi i x v e1 (by simpa using e2),hz⟩
theorem aa {h:Heap} {a:Pf} {its:Array OE} {n:Nat} (e:h.get? a=some { cls:=.type "list",data:=.seq its n }):h.IsList a its:=⟨_,e,rfl,n,rfl⟩
end
structure Turn (P:Pp) (w:Qn) (tg:Expr) (g0:G) (xs:List T) (k:Live->Prop) (fp:List Pf) (it:Pf) (tn:Nat->Heap->Prop):Prop where
 mem:it∈fp
 obj:∀i h,tn i h->∀b∈fp,∃o,h.get? b=some o/\∀v,o.data≠.cell v
 keep:∀i h h',tn i h->(∀b,b∈fp\/i=0->∀o,h.get? b=some o->h'.get? b=some o)->tn i h'
 item:∀{X:Cx},X.prog=P->X.w=w->∀{i:Nat} {pins:ar} {φ:Fr} {g:G} {L:Live} {s:OH} {E:OE->OH->Prop} {x:T},Le g0 g->Inv X pins φ g L s->(∀b∈fp,eI X pins g.H b)->tn i s.heap->k L->xs[i]?=some x ->
  O3 (model P w) X.A (pyNext (.ref it)) (fun r s1=>∃u,r=some u/\O3 (model P w) X.A (letOwnedTupleGo tg (.ref it) u) (fun _ s2=>∃g',Le g g'/\Inv X pins φ g' L s2/\RT g' none x u/\tn (i+1) s2.heap/\∀b∈fp,g'.H b=none) E s1) E s
 done:∀{X:Cx},X.prog=P->X.w=w->∀{i:Nat} {pins:ar} {φ:Fr} {g:G} {L:Live} {s:OH} {E:OE->OH->Prop},Le g0 g->Inv X pins φ g L s->(∀b∈fp,eI X pins g.H b)->tn i s.heap->k L->i=xs.length ->
  O3 (model P w) X.A (pyNext (.ref it)) (fun r s1=>r=none/\Inv X pins φ g L s1) E s
 self:∀(A:Pm) (i:Nat) (s:OH) (Q:OE->OH->Prop) (E:OE->OH->Prop),tn i s.heap->Q (.ref it) s->O3 (model P w) A (pyIter (.ref it)) Q E s
noncomputable def DG (X:Cx) (pins:ar) (φ:Fr) (g:G) (tg:Expr) (xs:List T) (k:Live->Prop) (L':Live) (HF:OE) (s2:OH):Prop :=
 ∃(it:Pf) (fp:List Pf) (tn:Nat->Heap->Prop) (g':G),HF=.ref it/\Le g g'/\Inv X pins φ g' L' s2/\Turn X.prog X.w tg g' xs k fp it tn/\tn 0 s2.heap/\∀b∈fp,eI X pins g'.H b
noncomputable def PI (X:Cx) (tg iter:Expr) (m:SI):Prop:=∀{pins:ar} {φ:Fr} {g:G} {L:Live} {s:OH} {xs:List T} {k:Live->Prop} {L':Live},Inv X pins φ g L s->m φ L=.ok (xs,k) L' ->
 O3 (model X.prog X.w) X.A (eval iter X.env) (fun v s1=>O3 (model X.prog X.w) X.A (pyIter v) (DG X pins φ g tg xs k L') F0 s1) F0 s
theorem qK {Md:Model} {A:Pm} {E:OE->OH->Prop} {s:OH} {tg:Expr} {it:Pf} {u:OE} {o:Obj} {n:String} {vs:Array OE} {Q:Unit->OH->Prop} (ho:s.heap.get? it=some o) (hc:o.cls=.type n) (hd:o.data=.fields vs)
    (hn:["enumerate","zip","dict_itemiterator","dict_reverseitemiterator","odict_iterator","itertools.zip_longest","itertools.pairwise"].contains n=false) (hQ:Q () s):O3 Md A (letOwnedTupleGo tg (.ref it) u) Q E s:=by
  unfold letOwnedTupleGo;cases tg <;> first
    | exact OC hQ
    | (cases u <;> first
        | exact OC hQ
        | (refine OB (wpAny_load ho ?_)
           rw [hc,hd];show O3 Md A (if (["enumerate","zip","dict_itemiterator","dict_reverseitemiterator","odict_iterator","itertools.zip_longest","itertools.pairwise"].contains n && vs[0]? == some (rawInt _))=true then _ else _) Q E s
           rw [if_neg (by intro h;rw [hn,Bool.false_and] at h;cases h)];exact OC hQ))
section
variable {P:Pp} {wd:Qn} {tg:Expr} {g0:G} {xs:List T} {t:T} {L0:Live} {a it:Pf}
theorem gG {o:Obj} {h:Heap} {vs:Array OE} (e:h.get? it=some o) (d:o.data=.fields vs):∀b∈[it],∃o,h.get? b=some o/\∀v,o.data≠.cell v:=fun b hb=>by
 have z:b=it:=by simpa using hb
 subst z;exact⟨o,e,fun v z=>by rw [d] at z;cases z⟩
theorem gI {L:Live} (h:stays t L0 L):vw L t=vw L0 t:=by
 cases t with
 | ref n=>show(at_ L n).getD _=(at_ L0 n).getD _;rw [h n rfl]
 | _=>rfl
theorem sG (r0:RT g0 none t (.ref a)) (hv:vw L0 t=.lst xs):Turn P wd tg g0 xs (stays t L0) [it] it (fun i h=>h.IsListIter it a i) where
 mem:=by simp
 obj:=fun i h st=>by obtain⟨o,e,c,d⟩:=st;exact gG e d
 keep:=fun i h h' st k=>st.at fun o e=>k it (.inl (by simp)) o e
 item:=by
  intro X hP hw i pins φ g L s E x l I hf st hk hx;subst hP hw;obtain⟨p,r⟩:=I.view (r0.le l);rw [gI hk,hv] at r;obtain⟨a',its,n,e1,e2,rv,_⟩:=I.lst r;cases e1;obtain⟨u,hu,ru⟩:=sF rv hx;refine wpAny_pyNext_list_item st (aa e2) (x:=u) (by simpa using hu) fun h' cA sb=>?_
  have I1:Inv X pins φ g L { s with heap:=h' }:=I.turned (t':=s.toks) (ch:=[it]) (fun b o hb e=>(sb.2 b (by simpa using hb)).trans e) hf;obtain⟨o,e,c,d⟩:=id cA;exact⟨u,rfl,qK (s:={ s with heap:=h' }) e c d (by decide) ⟨g,.refl g,I1,ru,cA,fun b hb=>(hf b hb).1⟩⟩
 done:=by
  intro X hP hw i pins φ g L s E l I hf st hk hx;subst hP hw;obtain⟨p,r⟩:=I.view (r0.le l);rw [gI hk,hv] at r;obtain⟨a',its,n,e1,e2,rv,_⟩:=I.lst r;cases e1;have hl:=OX rv
  exact wpAny_pyNext_list_end I.ok.hd st (aa e2) (by have z:=hl;simp at z ⊢;omega) fun h' eb=>⟨rfl,I.turned (t':=s.toks) (ch:=[it]) (fun b o hb e=>eb b o (by simpa using hb) e) hf⟩
 self:=fun _ _ _ _ _ st h=>wpAny_pyIter_listiter st h
theorem ui (r0:RT g0 none t (.ref a)) (hv:vw L0 t=.tup xs):Turn P wd tg g0 xs (stays t L0) [it] it (fun i h=>h.IsTupleIter it a i) where
 mem:=by simp
 obj:=fun i h st=>by obtain⟨o,e,c,d⟩:=st;exact gG e d
 keep:=fun i h h' st k=>st.at fun o e=>k it (.inl (by simp)) o e
 item:=by
  intro X hP hw i pins φ g L s E x l I hf st hk hx;subst hP hw;obtain⟨p,r⟩:=I.view (r0.le l);rw [gI hk,hv] at r;obtain⟨a',its,e1,e2,rv,_⟩:=I.tupP r;cases e1;obtain⟨u,hu,ru⟩:=sF rv hx;refine wpAny_pyNext_tuple_item st (show s.heap.IsTuple a its from e2) (x:=u) (by simpa using hu) fun h' cA sb=>?_
  have I1:Inv X pins φ g L { s with heap:=h' }:=I.turned (t':=s.toks) (ch:=[it]) (fun b o hb e=>(sb.2 b (by simpa using hb)).trans e) hf;obtain⟨o,e,c,d⟩:=id cA;exact⟨u,rfl,qK (s:={ s with heap:=h' }) e c d (by decide) ⟨g,.refl g,I1,ru,cA,fun b hb=>(hf b hb).1⟩⟩
 done:=by
  intro X hP hw i pins φ g L s E l I hf st hk hx;subst hP hw;obtain⟨p,r⟩:=I.view (r0.le l);rw [gI hk,hv] at r;obtain⟨a',its,e1,e2,rv,_⟩:=I.tupP r;cases e1;have hl:=OX rv
  exact wpAny_pyNext_tuple_end I.ok.hd st (show s.heap.IsTuple a its from e2) (by have z:=hl;simp at z ⊢;omega) fun h' eb=>⟨rfl,I.turned (t':=s.toks) (ch:=[it]) (fun b o hb e=>eb b o (by simpa using hb) e) hf⟩
 self:=fun _ _ _ _ _ st h=>wpAny_pyIter_tupleiter st h
theorem pe {lo:Int} {n:Nat}:Turn P wd tg g0 (upTo lo n) (fun _=>True) [it] it (fun i h=>IsRangeIter h it (lo+(i:Nat) * 1) ((n:Int) - (i:Nat)) 1) where
 mem:=by simp
 obj:=fun i h st=>gG st rfl
 keep:=fun i h h' st k=>k it (.inl (by simp)) _ st
 item:=by
  intro X hP hw i pins φ g L s E x l I hf st hk hx;subst hP hw;have W:=Walks.range (prog:=X.prog) (w:=X.w) I.ok.hd it lo 1 n
  have hx':i<n/\x=.int (lo+i):=by
   simp only [upTo,Pb,List.getElem?_range'] at hx;by_cases hi:i<n
   ·simp [hi] at hx;exact⟨hi,hx.symm⟩
   ·simp [hi] at hx
  obtain⟨hi,rfl⟩:=hx';refine W.item i s _ _ hi st fun v h' tk hv cA kk=>?_
  obtain⟨t,rfl⟩:=hv;have I1:Inv X pins φ g L { s with heap:=h',toks:=tk }:=I.turned (ch:=[it]) (fun b o hb e=>kk b o (by simpa using hb) e) hf
  refine⟨_,rfl,qK (s:={ s with heap:=h',toks:=tk }) (n:="range_iterator") cA rfl rfl (by decide) ⟨g,.refl g,I1,?_,cA,fun b hb=>(hf b hb).1⟩⟩;rw [Int.mul_one];exact .int _ _
 done:=by
  intro X hP hw i pins φ g L s E l I hf st hk hx;subst hP hw;exact wpAny_pyNext_range_end I.ok.hd st (by simp [upTo] at hx;omega) fun h' eb=>⟨rfl,I.turned (t':=s.toks) (ch:=[it]) (fun b o hb e=>eb b o (by simpa using hb) e) hf⟩
 self:=fun _ _ _ _ _ st h=>wpAny_pyIter_rangeiter st h
theorem nq {z:Cs} {tk:Tok} (ty:String) (DH:ty="str_ascii_iterator"\/ty="str_iterator"):Turn P wd tg g0 (z.map fun ch=>.str [ch]) (stays (.str z) L0) [it] it (fun i h=>h.IsStrIter it ty ⟨z.toArray⟩ tk i) where
 mem:=by simp
 obj:=fun i h st=>by obtain⟨o,e,c,d⟩:=st;exact gG e d
 keep:=fun i h h' st k=>by obtain⟨o,e,r⟩:=st;exact⟨o,k it (.inl (by simp)) o e,r⟩
 item:=by
  intro X hP hw i pins φ g L s E x l I hf st hk hx;subst hP hw;have wk:Walks X.prog X.w X.A it [it] [it] z.toArray.size (SignAt ⟨z.toArray⟩) (fun i h=>h.IsStrIter it ty ⟨z.toArray⟩ tk i):=by
   rcases DH with e|e
   ·subst e;exact Walks.strAscii I.ok.hd it _ tk
   ·subst e;exact Walks.strWide I.ok.hd it _ tk
  have hn:["enumerate","zip","dict_itemiterator","dict_reverseitemiterator","odict_iterator","itertools.zip_longest","itertools.pairwise"].contains ty=false:=by
   rcases DH with e|e <;> subst e <;> decide
  rw [Pb] at hx;obtain⟨c0,Kk,rfl⟩:=OW.mp hx;refine wk.item i s _ E (by simpa using (OY.mp Kk).1) st fun v h' tk' hv cA kk=>?_
  obtain⟨c,u,hc',rfl⟩:=hv;have ec:c0=c:=by
   have:z[i]?=some c:=by simpa using hc'
   rw [Kk] at this;exact Qq this
  subst ec;have I1:Inv X pins φ g L { s with heap:=h',toks:=tk' }:=I.turned (ch:=[it]) (fun b o hb e=>kk b o (by simpa using hb) e) hf
  obtain⟨o,e,ec,d⟩:=id cA;exact⟨_,rfl,qK (s:={ s with heap:=h',toks:=tk' }) e ec d hn ⟨g,.refl g,I1,.str [c0] u (by show 1<=O6;decide),cA,fun b hb=>(hf b hb).1⟩⟩
 done:=by
  intro X hP hw i pins φ g L s E l I hf st hk hx;subst hP hw;have wk:Walks X.prog X.w X.A it [it] [it] z.toArray.size (SignAt ⟨z.toArray⟩) (fun i h=>h.IsStrIter it ty ⟨z.toArray⟩ tk i):=by
   rcases DH with e|e
   ·subst e;exact Walks.strAscii I.ok.hd it _ tk
   ·subst e;exact Walks.strWide I.ok.hd it _ tk
  have hi:i=z.toArray.size:=by simpa using hx
  subst hi;exact wk.done s _ E st fun h' tk kk=>⟨rfl,I.turned (ch:=[it]) (fun b o hb e=>kk b o (by simpa using hb) e) hf⟩
 self:=fun A i s Q E st h=>by
  rcases DH with e|e
  ·subst e;exact wpAny_pyIter_striter_ascii st h
  ·subst e;exact wpAny_pyIter_striter_wide st h
abbrev Em (P:Pp) (wd:Qn) (h:Heap) (d:Pf) (ep:Nat):Prop:=h.DictAt (PySem.strKind P wd) d [] ep
theorem uj {d:Pf} {ep:Nat} {k:Live->Prop}:Turn P wd tg g0 [] k [it] it (fun i h=>i=0/\h.IsKeyIter it d 0 ([]:List (Str × OE)).length ep/\Em P wd h d ep) where
 mem:=by simp
 obj:=fun i h st=>by obtain⟨_,⟨o,e,c,d⟩,_⟩:=st;exact gG e d
 keep:=fun i h h' st k=>by
  obtain⟨z,⟨o,e,r⟩,D⟩:=st;exact⟨z,⟨o,k it (.inl (by simp)) o e,r⟩,D.keep fun b o e=>k b (.inr z) o e⟩
 item:=by
  intro X hP hw i pins φ g L s E x l I hf st hk hx;simp at hx
 done:=by
  intro X hP hw i pins φ g L s E l I hf st hk hx;subst hP hw;exact wpAny_pyNext_dict_end I.ok.hd st.2.1 st.2.2 rfl fun h' eb=>⟨rfl,I.turned (t':=s.toks) (ch:=[it]) (fun b o hb e=>eb b o (by simpa using hb) e) hf⟩
 self:=fun _ _ _ _ _ st h=>wpAny_pyIter_keyiter st.2.1 h
theorem Inv.oY {X:Cx} {pins:ar} {φ:Fr} {g:G} {L:Live} {s:OH} {p:Option (Pf × Pf)} {u:OE} (I:Inv X pins φ g L s) (r:RT g p (.aO []) u):∃a o ep,u=.ref a/\s.heap.get? a=some o/\o.ExactDict/\(a == sysModules)=false/\Em X.prog X.w s.heap a ep:=by
 cases r with
 | aO ht hk hx hd hz hl hn hs hh h1 h2 =>
  rename_i a o es n;obtain rfl:es = #[]:=Sw.mp hl.symm;exact⟨a,o,n,rfl,I.kn hk,hx,hs,o,#[],I.kn hk,hx,hd,fun e he=>by simp at he,.nil,Rk⟩
end
section
variable {X:Cx} {tg e a b:Expr} {m ma mb:SE} {pos p A5:Pos}
theorem ao {α:Type} {c:Prop} [Decidable c] {r:R α} {a:α} {L:Live} (h:bD c r=.ok a L):c/\r=.ok a L:=by
 unfold bD at h;split at h
 ·exact⟨by assumption,h⟩
 ·cases h
theorem HG {φ:Fr} {L L':Live} {t:T} (h:m φ L=.ok t L'):d5 [m] φ L=.ok [t] L':=by simp [d5,R.bind,h]
theorem HH {φ:Fr} {L L1 L':Live} {t u:T} (h:ma φ L=.ok t L1) (h2:mb φ L1=.ok u L'):d5 [ma,mb] φ L=.ok [t,u] L':=by simp [d5,R.bind,h,h2]
theorem A6 {φ:Fr} {L L':Live} {xs:List T} {k:Live->Prop} (h:src m φ L=.ok (xs,k) L'):∃t,m φ L=.ok t L'/\items t L'=some xs/\k=stays t L':=by
 obtain⟨t,L1,e1,h⟩:=R.of h;cases ei:items t L1 with
 | none=>rw [ei] at h;cases h
 | some ys=>rw [ei] at h;cases h;exact⟨t,e1,ei,rfl⟩
theorem Inv.DI {X:Cx} {pins:ar} {φ:Fr} {g:G} {L:Live} {s:OH} {xs:List T} {k:Live->Prop} {o:Obj} {tn:Nat->Heap->Prop} (I:Inv X pins φ g L s) (T:Turn X.prog X.w tg g xs k [s.heap.objs.size] s.heap.objs.size tn) (h0:tn 0 (s.heap.push o)):DG X pins φ g tg xs k L (.ref s.heap.objs.size) { s with heap:=s.heap.push o }:=by
 refine⟨_,_,_,g,rfl,.refl g,I.kept (t':=s.toks) fun b o e=>OJ _ e,T,h0,fun b hb=>?_⟩;have z:b=s.heap.objs.size:=by simpa using hb
 subst z;exact I.ud (OR _) I.fresh
theorem DG.le {X:Cx} {pins:ar} {φ:Fr} {g g1:G} {L':Live} {xs:List T} {k:Live->Prop} {u:OE} {s':OH} (h:DG X pins φ g1 tg xs k L' u s') (l:Le g g1):DG X pins φ g tg xs k L' u s':=let ⟨a,b,c,d,e,f,r⟩:=h;⟨a,b,c,d,e,l.trans f,r⟩
theorem RT.sV {g:G} {p:Option (Pf × Pf)} {t:T} {L:Live} {z:Cs} {x:Str} {k:Tok} (r:RT g p t (.str x k)) (e:vw L t=.str z):t=.str z:=by
 cases t with
 | ref n=>cases r
 | _=>exact e
theorem lM (he:PE X e m):PI X tg e (src m):=fun I h=>by
 obtain⟨t,e1,ei,rfl⟩:=A6 h;refine a7 (he I e1) fun v s1 ⟨g1,l1,I1,r1⟩=>?_
 obtain⟨p,r⟩:=I1.view r1;unfold items at ei;cases ev:vw _ t with
 | lst xs =>
  rw [ev] at ei r;cases ei;obtain⟨a,its,n,rfl,e2,rv,_⟩:=I1.lst r;exact wpAny_pyIter_list (aa e2) ((I1.DI (sG r1 ev) ⟨_,OM _ rfl,rfl,rfl⟩).le l1)
 | tup xs =>
  rw [ev] at ei r;cases ei;obtain⟨a,its,rfl,e2,rv,_⟩:=I1.tupP r;exact wpAny_pyIter_tuple (show s1.heap.IsTuple a its from e2) ((I1.DI (ui r1 ev) ⟨_,OM _ rfl,rfl,rfl⟩).le l1)
 | str z =>
  rw [ev] at ei r;cases ei;obtain⟨tk,rfl,hz⟩:=r.gD;obtain rfl:=r1.sV ev;cases ha:(⟨z.toArray⟩:Str).cps.all (·<128)
  ·exact wpAny_pyIter_wide ha ((I1.DI (nq _ (.inr rfl)) ⟨_,OM _ rfl,rfl,rfl⟩).le l1)
  ·exact wpAny_pyIter_ascii ha ((I1.DI (nq _ (.inl rfl)) ⟨_,OM _ rfl,rfl,rfl⟩).le l1)
 | aO ks =>
  rw [ev] at ei r;cases ks with
  | cons=>cases ei
  | nil =>
   cases ei;obtain⟨a,o,ep,rfl,_,_,hs,D⟩:=I1.oY r;exact wpAny_pyIter_dict hs D ((I1.DI uj ⟨rfl,⟨_,OM _ rfl,rfl,rfl⟩,D.push _⟩).le l1)
 | _=>rw [ev] at ei;cases ei
theorem nt {X:Cx} {pins:ar} {φ:Fr} {g:G} {L:Live} {s:OH} {E:OE->OH->Prop} {lo hi:Int} {t u v:Tok} {tk:Nat} (I:Inv X pins φ g L s) (h1:tS lo) (h2:tS hi) :
  O3 (model X.prog X.w) X.A (pyIter (.ref s.heap.objs.size)) (DG X pins φ g tg (upTo lo (hi - lo).toNat) (fun _=>True) L) E { s with heap:=s.heap.push { cls:=.type "range",data:=.fields #[.int lo t,.int hi u,.int 1 v] },toks:=tk }:=by
 refine wpAny_pyIter_range (IsRange.new ..) (small_one h1.1 h1.2 h2.1 h2.2) ?_;have I1:Inv X pins φ g L { s with heap:=s.heap.push { cls:=.type "range",data:=.fields #[.int lo t,.int hi u,.int 1 v] },toks:=tk }:=I.kept fun b o e=>OJ _ e
 refine I1.DI pe ?_;have e2:(((hi - lo).toNat:Nat):Int) - ((0:Nat):Int)=Builtin.Range.rangeSize lo hi 1:=by rw [rangeSize_one];split <;> omega
 show IsRangeIter _ _ (lo+((0:Nat):Int) * 1) ((((hi - lo).toNat:Nat):Int) - ((0:Nat):Int)) 1;rw [show lo+((0:Nat):Int) * 1=lo by simp,e2];exact OM _ rfl
theorem um {φ:Fr} {L L':Live} {xs:List T} {k:Live->Prop} (h:ni ma mb φ L=.ok (xs,k) L'):∃i j L1,ma φ L=.ok (.int i) L1/\mb φ L1=.ok (.int j) L'/\tS i/\tS j/\xs=upTo i (j - i).toNat/\k=fun _=>True:=by
 obtain⟨x,L1,e1,h⟩:=R.of h;obtain⟨y,L2,e2,h⟩:=R.of h;cases x with
 | int i =>
  cases y with
  | int j =>
   obtain⟨q,h⟩:=ao h;cases h;exact⟨_,_,L1,e1,e2,q.1,q.2,rfl,rfl⟩
  | _=>cases h
 | _=>cases h
theorem xQ (hg:Gl X "range") (hm:X.mg "range"=none) (ha:PE X a ma) (hs:aC a=true):PI X tg (.Call (.Name "range" p) [a] [] pos) (ni (c (.int 0)) ma):=fun I h=>by
 obtain⟨i,j,L1,e1,e2,z1,z2,rfl,rfl⟩:=um h;cases e1;refine Call_ (eL I hg hm boot_range (Tf (a7 (gE ha lJ hs pos I (HG e2)) fun us s1 ⟨g1,l1,I1,r1⟩=>?_) (ah hs) rfl) (by decide) (by decide));cases r1 with
 | cons r rr =>
  cases rr;obtain⟨_,rfl⟩:=r.iI;exact call_range_1 (wpAny_mono (nt I1 z1 z2) (fun _ _ z=>z.le l1) fun _ _ z=>z)
theorem xR (hg:Gl X "range") (hm:X.mg "range"=none) (ha:PE X a ma) (hb:PE X b mb) (hs:aC a=true) (A7:aC b=true):PI X tg (.Call (.Name "range" p) [a,b] [] pos) (ni ma mb):=fun I h=>by
 obtain⟨i,j,L1,e1,e2,z1,z2,rfl,rfl⟩:=um h;refine Call_ (eL I hg hm boot_range (Tf (a7 (gE ha (gE hb lJ A7) hs pos I (HH e1 e2)) fun us s1 ⟨g1,l1,I1,r1⟩=>?_) (ah hs) (by rw [ah A7];rfl)) (by decide) (by decide));cases r1 with
 | cons r rr =>
  cases rr with
  | cons r' rr =>
   cases rr;obtain⟨_,rfl⟩:=r.iI;obtain⟨_,rfl⟩:=r'.iI;exact call_range_2 (wpAny_mono (nt I1 z1 z2) (fun _ _ z=>z.le l1) fun _ _ z=>z)
theorem fX {fp:List Pf} {h:Heap} {b:Pf} {o:Obj} (hb:b∈fp) (e:h.get? b=some o):(b,o)∈fp.filterMap fun b=>(h.get? b).map fun o=>(b,o):=QA.mpr ⟨b,hb,by rw [e];rfl⟩
theorem Inv.pinned {X:Cx} {pins:ar} {φ:Fr} {g:G} {L:Live} {s:OH} {fp:List Pf} (I:Inv X pins φ g L s) (hf:∀b∈fp,eI X pins g.H b) (ho:∀b∈fp,∃o,s.heap.get? b=some o/\∀v,o.data≠.cell v) :
  Inv X (pins++fp.filterMap fun b=>(s.heap.get? b).map fun o=>(b,o)) φ g L s :=
 I.fJ fun p hp=>(OU.mp hp).elim (I.pin p) fun z=>by
  obtain⟨b,hb,e⟩:=QA.mp z;obtain⟨o,e',d⟩:=ho b hb;rw [e'] at e;cases e;exact⟨e',(hf b hb).1,(hf b hb).2.1,d⟩
theorem Inv.je {X:Cx} {pins pl:ar} {φ:Fr} {g:G} {L:Live} {s:OH} (I:Inv X (pins++pl) φ g L s):Inv X pins φ g L s:=I.fJ fun p hp=>I.pin p (Pu _ hp)
noncomputable def fY:Expr->Bool
 | .Set ..=>false
 | _=>true
theorem qL {env:Env} (h:fY e=true):∀x,foldedSetIterable e env x=pure x:=fun x=>by
 cases e <;> first|rfl|cases h
theorem A8 {sb:List Stmt} {mi:SI} {t:Tg} {mb:SS} (hi:PI X tg e mi) (hg:PG X tg t) (hb:xw X sb mb) (hs:fY e=true):PS X (.For tg e sb [] pos) (cw mi t mb):=fun {pins φ g L s} I h=>by
 obtain⟨⟨xs,k⟩,L1,e1,e2,h⟩:=gF h;rw [show cw mi t mb φ L=_ from e2];clear e2;refine wpAny_For (a7 (hi I e1) fun v s1 h1=>a7 h1 fun HF s2 ⟨it,fp,tn,g2,e,l2,I2,T,bR,f2⟩=>?_) (qL hs);subst e;have pf:∀{H':Hp},(∀b∈fp,H' b=none)->∀b∈fp,eI X pins H' b:=fun hn b hb=>⟨hn b hb,(f2 b hb).2⟩
 generalize ho:forL k t mb xs φ L1=o at h;refine codeAny_forLoop_any (fun n s'=>∃i φ' g' L',n=xs.length - i/\i<=xs.length/\Le g2 g'/\Inv X pins φ' g' L' s'/\tn i s'.heap/\(∀b∈fp,g'.H b=none)/\forL k t mb (xs.drop i) φ' L'=o) ?_ xs.length
  ⟨0,φ,g2,L1,rfl,Pg _,.refl g2,I2,bR,fun b hb=>(f2 b hb).1,ho⟩
 rintro n s3 ⟨i,φ3,g3,L3,rfl,hi,l3,I3,xy,Kl,eq⟩;by_cases bT:i<xs.length
 ·rw [PV bT] at eq
  unfold forL at eq;by_cases hk:k L3
  ·rw [if_pos hk] at eq
   refine wpAny_passesOwn Sa (wpAny_mono (T.item rfl rfl l3 I3 (pf Kl) xy hk (Ge9 bT)) (fun r s4 ⟨u,hr,h4⟩=>?_) fun _ _ z=>z);subst hr;refine wpAny_passesOwn Sa (wpAny_mono h4 (fun _ s5 ⟨g5,l5,I5,r5,A9,HI⟩=>?_) fun _ _ z=>z);have Lv:=I5.pinned (pf HI) (T.obj _ _ A9)
   cases ef:t.set xs[i] φ3 with
   | none=>rw [ef] at eq;exact absurd eq.symm h
   | some φ6 =>
    simp only [ef] at eq;refine wpAny_passesOwn Sa (a7 (hg Lv r5 ef) fun _ s6 I6=>?_);have hb':mb φ6 L3≠.bad:=fun z=>by rw [z] at eq;exact absurd eq.symm h
    refine wpAny_passesOwn Sa (a7 (hb I6 hb') fun f s7 ⟨g7,l7,q7⟩=>?_);have HJ:=(l3.trans l5).trans l7
    have again:∀{φ7:Fr} {L7:Live},Inv X (pins++fp.filterMap fun b=>(s5.heap.get? b).map fun o=>(b,o)) φ7 g7 L7 s7->forL k t mb (xs.drop (i+1)) φ7 L7=o->∃m,m<xs.length - i/\∃j φ' g' L',m=xs.length - j/\j<=xs.length/\Le g2 g'/\Inv X pins φ' g' L' s7/\tn j s7.heap/\(∀b∈fp,g'.H b=none)/\forL k t mb (xs.drop j) φ' L'=o:=fun {φ7 L7} I7 h7=>by
     refine⟨xs.length - (i+1),by omega,i+1,φ7,g7,L7,rfl,bT,HJ,I7.je,T.keep _ _ _ A9 fun b hb o e=>have hb:=hb.resolve_right (Nat.succ_ne_zero _);(I7.pin (b,o) (Pn _ (fX hb e))).1,fun b hb=>?_,h7⟩;obtain⟨o,e,d⟩:=T.obj _ _ A9 b hb;exact(I7.pin (b,o) (Pn _ (fX hb e))).2.1
    cases eb:mb φ6 L3 with
    | bad=>exact absurd eb hb'
    | nx φ7 L7 =>
     rw [eb] at q7 eq;cases f <;> first|exact q7.elim|exact again q7 eq
    | ct φ7 L7 =>
     rw [eb] at q7 eq;cases f <;> first|exact q7.elim|exact again q7 eq
    | bk φ7 L7 =>
     rw [eb] at q7 eq;subst eq;cases f <;> first|exact q7.elim|exact⟨g7,l2.trans HJ,q7.je⟩
    | rt t7 L7 =>
     rw [eb] at q7 eq;subst eq;cases f <;> first|exact q7.elim|exact⟨g7,l2.trans HJ,⟨_,q7.1.choose_spec.je⟩,q7.2⟩
  ·rw [if_neg hk] at eq;exact absurd eq.symm h
 ·have ei:i=xs.length:=by omega
  rw [Q6 (by omega)] at eq;unfold forL at eq;by_cases hk:k L3
  ·rw [if_pos hk] at eq
   subst eq;refine wpAny_passesOwn Sa (wpAny_mono (T.done rfl rfl l3 I3 (pf Kl) xy hk ei) (fun r s4 ⟨hr,I4⟩=>?_) fun _ _ z=>z);subst hr;exact wpAny_execs_nil ⟨g3,l2.trans l3,I4⟩
  ·rw [if_neg hk] at eq;exact absurd eq.symm h
end
noncomputable def aE (env:Env):List (Str × NameKind)->List (Str × Pf)->List (Str × Pf)
 | [],cs=>cs
 | (n,k)::r,cs=>if (k == Qt)=true then aE env r ((n,(env.cells.lookup n).getD 0)::cs) else aE env r cs
theorem dW {env:Env}:∀(names:List (Str × NameKind)) (cs:List (Str × Pf)),(∀y∈names,y.2=.free->(env.cells.lookup y.1).isSome=true) ->
  (forIn names cs (fun x (cs:List (Str × Pf))=>(match x with|(name,kind)=>if (kind == Qt)=true then (do let a <- cellOf env name;pure (RL ((name,a)::cs))) else pure (RL cs):Sem (ForInStep (List (Str × Pf))))):Sem (List (Str × Pf)))=pure (aE env names cs)
 | [],cs,_=>rfl
 | (n,k)::r,cs,h=>by
  have hr:∀y∈r,y.2=.free->(env.cells.lookup y.1).isSome=true:=fun y hy=>h y (OG _ hy)
  rw [List.forIn_cons];by_cases hk:(k == Qt)=true
  ·have e:k=.free:=by simpa using hk
   have hs:=h (n,k) OI e;obtain⟨a,ha⟩:=Qw.mp hs;simp only [hk,if_true,aE,cellOf,ha,SW,pure_bind];exact dW r _ hr
  ·simp only [hk,aE,pure_bind,OQ,if_false]
   exact dW r _ hr
theorem ph {env:Env} {scope:Scope} (h:∀y∈scope.names,y.2=.free->(env.cells.lookup y.1).isSome=true):closureFor scope env=pure (aE env scope.names []):=by
 have e:=dW (env:=env) scope.names [] h;unfold closureFor;simp only [bind_pure_comp,map_pure] at e ⊢;rw [<- e];simp
theorem gJ {env:Env}:∀{names:List (Str × NameKind)} {cs:List (Str × Pf)} {y:Str} {c:Pf},(∀z∈names,z.2=.free->(env.cells.lookup z.1).isSome=true)->(∀y c,cs.lookup y=some c->env.cells.lookup y=some c) ->
  (aE env names cs).lookup y=some c->env.cells.lookup y=some c
 | [],_,_,_,_,hc,h=>hc _ _ h
 | (n,k)::r,cs,y,c,hn,hc,h=>by
  have hr:∀z∈r,z.2=.free->(env.cells.lookup z.1).isSome=true:=fun z hz=>hn z (OG _ hz)
  unfold aE at h;by_cases hk:(k == Qt)=true
  ·rw [if_pos hk] at h
   have e:k=.free:=by simpa using hk
   obtain⟨a,ha⟩:=Qw.mp (hn (n,k) OI e);refine gJ hr (fun z d q=>?_) h;rw [Ph] at q;cases hz:z == n with
   | true =>
    have ez:z=n:=by simpa using hz
    rw [hz] at q;simp only [ha,SW] at q;have ha':env.cells.lookup n=some a:=ha
    rw [ez,ha'];exact q
   | false =>
    rw [hz] at q;exact hc z d q
  ·rw [if_neg hk] at h
   exact gJ hr hc h
theorem gK {env:Env}:∀{names:List (Str × NameKind)} {cs:List (Str × Pf)} {y:Str},((y,Qt)∈names\/(cs.lookup y).isSome=true)->((aE env names cs).lookup y).isSome=true
 | [],_,_,h=>by
  rcases h with h|h
  ·cases h
  ·exact h
 | (n,k)::r,cs,y,h=>by
  unfold aE;have key:∀a:Pf,(cs.lookup y).isSome=true->(VB y ((n,a)::cs)).isSome=true:=fun a q=>by
   rw [Ph];cases y == n with
   | true=>rfl
   | false=>exact q
  by_cases hk:(k == Qt)=true
  ·rw [if_pos hk]
   refine gK ?_;rcases h with h|h
   ·rcases OS.mp h with e|h
    ·cases e
     refine .inr ?_;rw [Ph];simp
    ·exact .inl h
   ·exact .inr (key _ h)
  ·rw [if_neg hk]
   refine gK ?_;rcases h with h|h
   ·rcases OS.mp h with e|h
    ·cases e
     exact absurd (by simp) hk
    ·exact .inl h
   ·exact .inr h
theorem gL {scope:Scope} {env:Env} {y:Str} {k':NameKind} (h:(relabel scope env).names.lookup y=some k'):∃k,scope.names.lookup y=some k/\(k'=k\/(k=.free/\k'=.cell)):=by
 have go:∀(names:List (Str × NameKind)),(names.map fun(n,k)=>if (k == Qt && env.scope.kind == .function && env.kindOf n == some .cell) then (n,Uk) else (n,k)).lookup y=some k' ->
   ∃k,names.lookup y=some k/\(k'=k\/(k=.free/\k'=.cell)):=by
  intro names;induction names with
  | nil=>intro h;simp at h
  | cons a r ih =>
   obtain⟨n,k⟩:=a;intro h;rw [OZ] at h;by_cases hc:(k == Qt && env.scope.kind == .function && env.kindOf n == some .cell)=true
   ·simp only [hc,if_true,Ph] at h
    rw [Ph];cases hy:y == n with
    | true =>
     rw [hy] at h;have hk:k=.free:=by
      simp only [ON,beq_iff_eq] at hc;exact hc.1.1
     exact⟨k,rfl,.inr ⟨hk,(Qq h).symm⟩⟩
    | false =>
     rw [hy] at h;exact ih h
   ·simp only [hc,OQ,if_false,Ph] at h
    rw [Ph];cases hy:y == n with
    | true =>
     rw [hy] at h;exact⟨k,rfl,.inl (Qq h).symm⟩
    | false =>
     rw [hy] at h;exact ih h
 exact go scope.names h
theorem gM {scope:Scope} {env:Env} {y:Str} (h:scope.names.lookup y=some .free):(relabel scope env).names.lookup y=some .cell\/(relabel scope env).names.lookup y=some .free:=by
 have go:∀(names:List (Str × NameKind)),names.lookup y=some .free->(names.map fun(n,k)=>if (k == Qt && env.scope.kind == .function && env.kindOf n == some .cell) then (n,Uk) else (n,k)).lookup y=some .cell \/
   (names.map fun(n,k)=>if (k == Qt && env.scope.kind == .function && env.kindOf n == some .cell) then (n,Uk) else (n,k)).lookup y=some .free:=by
  intro names;induction names with
  | nil=>intro h;simp at h
  | cons a r ih =>
   obtain⟨n,k⟩:=a;intro h;rw [OZ];rw [Ph] at h;by_cases hc:(k == Qt && env.scope.kind == .function && env.kindOf n == some .cell)=true
   ·simp only [hc,if_true,Ph]
    cases hy:y == n with
    | true=>exact .inl rfl
    | false =>
     rw [hy] at h;exact ih h
   ·simp only [hc,OQ,if_false,Ph]
    cases hy:y == n with
    | true =>
     rw [hy] at h;have h':k=.free:=Qq h
     exact .inr (by rw [h'])
    | false =>
     rw [hy] at h;exact ih h
 exact go scope.names h
theorem lN {prog:Pp} {w:Qn} {A:Pm} {R:Result->OH->Prop} {s:OH} {elt target iter:Expr} {ifs:List Expr} {scope:Scope} {pos:Pos} {it acc:OE} {env:Env} (I:Nat->OH->Prop)
  (turn:∀n s,I n s->O3 (model prog w) A (pyNext it) (fun r s₁=>match r with
   | none=>R (.ok .next) s₁
   | some v=>O3 (model prog w) A (letOwnedTupleGo target it v) (fun _ Km=>O3 (model prog w) A (assign target env v) (fun _ s₂ =>
     O3 (model prog w) A (forIn ifs true fun c r=>if r=true then do let ok <- isTrue c env (eval c env);pure (RL ok) else pure (RL r)) (fun ok s₃ =>
      if ok=true then O3 (model prog w) A (eval elt env) (fun x s₄ =>
       O3 (model prog w) A (call (.builtin "list.append") [acc,x]) (fun _ s₅=>∃m,m<n/\I m s₅) (fun _ _=>False) s₄) (fun _ _=>False) s₃
      else ∃m,m<n/\I m s₃) (fun _ _=>False) s₂) (fun _ _=>False) Km) (fun _ _=>False) s₁) (fun _ _=>False) s)
  (n:Nat) (h:I n s):codeAny (model prog w) A (.compLoop (.ListComp elt [⟨target,iter,ifs,0⟩] scope pos) 0 it acc env) R s:=by
 refine codeAny_loop rfl I (fun n s hI=>?_) n h;show O3 _ A ((compTurn (.ListComp elt [⟨target,iter,ifs,0⟩] scope pos) 0 it acc env).onRaise (fun x=>do noteFrame x env;theTreesLotGoes x)) _ _ s
 refine wpAny_noted ?_;rw [compTurn_list];refine OB (wpAny_standAt (OB (wpAny_mono (turn n s hI) (fun r s₁ h₁=>?_) fun _ _ h'=>h'.elim)));cases r with
 | none=>exact OC h₁
 | some v =>
  refine OB (wpAny_mono h₁ (fun _ Km Lw=>?_) fun _ _ h'=>h'.elim);refine OB (wpAny_mono Lw (fun _ s₂ h₂=>OB (wpAny_mono h₂ (fun ok s₃ h₃=>?_) fun _ _ h'=>h'.elim)) fun _ _ h'=>h'.elim);cases ok with
  | false=>exact OC ⟨rfl,h₃⟩
  | true =>
   exact OB (OB (wpAny_mono h₃ (fun x s₄ h₄=>OB (wpAny_mono h₄ (fun _ s₅ h₅=>OC (OC ⟨rfl,h₅⟩)) fun _ _ h'=>h'.elim)) fun _ _ h'=>h'.elim))
noncomputable def b6 (X:Cx) (scope:Scope) (cl:List (Str × Pf)) (N:List Str) (C:Pf) (s₀:OH) (H₀:Hp) (ex:List Pf):Cx:={ X with N:=N,s₀:=s₀,H₀:=H₀,env:=compEnvC scope cl C X.env,ex:=ex,fn:=fun _=>false }
structure jf (X:Cx) (scope:Scope) (N:List Str) (aM:List (Option Nat)):Prop where
 kind:scope.kind=.function
 jg:∀y∈scope.names,y.2≠.cell
 locs:∀y∈scope.names,y.2=.local->scope.names.lookup y.1=some .local
 frees:∀y∈scope.names,y.2=.free->(X.env.scope.names.lookup y.1=some .cell\/X.env.scope.names.lookup y.1=some .free)
 Lx:∀(i:Nat) y j,N[i]?=some y->aM[i]?=some (some j)->X.N[j]?=some y/\scope.names.lookup y=some .free
 nd:N.Nodup
 len:N.length=aM.length
section
variable {X:Cx} {pins:ar} {φ:Fr} {g:G} {L:Live} {s:OH}
theorem Inv.weak {φ':Fr} (I:Inv X pins φ g L s) (hl:φ'.length=φ.length) (w:∀(i:Nat) t,φ'[i]?=some (some t)->φ[i]?=some (some t)):Inv X pins φ' g L s :=
 { I with loc:=let ⟨m,hn,hl'⟩:=I.loc;⟨m,hn,fun i x v e1 e2 e3=>hl' i x v e1 (w i v e2) e3⟩,len:=hl.trans I.len }
theorem Inv.Ef {a:Pf} {o:Obj} (I:Inv X pins φ g L s) (f:eI X pins g.H a) (h:s.heap.get? a=some o):Inv X pins φ (g.lay a o) L s:=by
 refine I.step (g1:=s.gens) (t':=s.toks) (d':=s.drawn) (h':=s.heap) (ch:=[a]) (Le.lay f.1) (fun b hb=>?_) (fun b u _ _ e _=>e) (fun b u hb e n=>(az (fun z=>hb (by simp [z]))).trans n) (fun _ m=>m) (fun b c u e=>?_) I.bare (I.rel.le (Le.lay f.1) rfl fun b u e=>az (fun z=>by rw [z,f.1] at e;cases e))
 ·have z:b=a:=by simpa using hb
  subst z;exact⟨f.2.2.1,f.2.1,f.2.2.2⟩
 ·by_cases hb:b=a
  ·subst hb
   have e':some (true,o)=some (c,u):=(ak (H:=g.H)).symm.trans e;cases e';exact h
  ·exact I.hok b c u ((az hb).symm.trans e)
theorem Inv.Ba {a:Pf} {o:Obj} {c:T} (I:Inv X pins φ g L s) (f:eI X pins g.H a) (h:s.heap.get? a=some o) (hc:RT (g.new a o) (some (a,a)) c (.ref a)):Inv X pins φ (g.new a o) (c::L) s:=by
 refine I.step (g1:=s.gens) (t':=s.toks) (d':=s.drawn) (h':=s.heap) (ch:=[a]) (Le.new f.1) (fun b hb=>?_) (fun b u _ _ e _=>e) (fun b u hb e n=>(az (fun z=>hb (by simp [z]))).trans n) (fun _ m=>m) (fun b c u e=>?_) I.bare (I.rel.new f.1 hc)
 ·have z:b=a:=by simpa using hb
  subst z;exact⟨f.2.2.1,f.2.1,f.2.2.2⟩
 ·by_cases hb:b=a
  ·subst hb
   have e':some (false,o)=some (c,u):=(ak (H:=g.H)).symm.trans e;cases e';exact h
  ·exact I.hok b c u ((az hb).symm.trans e)
theorem pj {scope:Scope} {N:List Str} {aM:List (Option Nat)} {s3:OH} {h1:Heap} {ex:List Pf} {m:Str->Option OE} {tk:Nat} (ok:jf X scope N aM) (I:Inv X pins φ g L s3)
  (hf:∀b∈ex,eI X pins g.H b) (bT:∀b∈ex,b<s3.heap.objs.size) (hn:h1.Ns s3.heap.objs.size m) (keep:∀b o,s3.heap.get? b=some o->h1.get? b=some o) :
  Inv (b6 X scope (aE X.env scope.names []) N s3.heap.objs.size s3 g.H ex) [] (inner aM φ) g L { s3 with heap:=h1,toks:=tk }:=by
 have qM:∀z∈scope.names,z.2=.free->(X.env.cells.lookup z.1).isSome=true:=fun z hz nu=>by
  obtain⟨c,e⟩:=I.ok.has z.1 (ok.frees z hz nu);rw [e];rfl
 have sub:∀y c,(aE X.env scope.names []).lookup y=some c->X.env.cells.lookup y=some c:=fun y c h=>gJ qM (fun _ _ q=>by simp at q) h
 refine⟨⟨I.ok.mod,ok.kind,I.ok.glob,I.ok.blt,OR _,fun y z c e1 e2=>I.ok.inj y z c (sub _ _ e1) (sub _ _ e2),fun y hy=>?_,fun y c HD _=>absurd HD (by simp [b6]),I.ok.hd,fun b hb=>⟨O8 (bT b hb),fun y c e=>(hf b hb).2.2.2.1 y c (sub _ _ e)⟩,
   I.bs,Pq I.ok.bsz I.sz,fun b o e hb=>?_⟩,
  rfl,I.bare,Un.kept keep,⟨m,hn,fun i y v e1 e2 e3=>?_⟩,fun y c e=>?_,I.fresh,fun y c e=>I.jc y c (sub _ _ e),fun p hp=>(by simp at hp),fun a b o e=>keep a o (I.hok a b o e),by show(inner aM φ).length=N.length;rw [ok.len];simp [inner],I.rel,I.gB,I.gm,I.gw⟩
 ·have hy':(relabel scope X.env).names.lookup y=some .cell\/(relabel scope X.env).names.lookup y=some .free:=hy
  have fr:scope.names.lookup y=some .free:=by
   rcases hy' with q|q
   ·obtain⟨k,e,z⟩:=gL q
    rcases z with z|⟨z,_⟩
    ·exact absurd z.symm (ok.jg _ (Pt e))
    ·rw [e,z]
   ·obtain⟨k,e,z⟩:=gL q
    rcases z with z|⟨_,z⟩
    ·rw [e,z]
    ·cases z
  exact Qw.mp (gK (.inl (Pt fr)))
 ·rcases(hf b hb).2.2.1 with z|z
  ·exact I.ok.xJ b o e z
  ·exact absurd (O5 (O4 e) (Pq I.ok.bsz z)) (Qj _)
 ·have e2':(aM.map fun o=>o.bind fun i=>(φ[i]?).join)[i]?=some (some v):=e2
  rw [Pb] at e2';cases hj:aM[i]? with
  | none=>rw [hj] at e2';cases e2'
  | some oj =>
   rw [hj] at e2';cases oj with
   | none=>cases e2'
   | some j =>
    obtain⟨eN,hy⟩:=ok.Lx i y j e1 hj;have hσ:φ[j]?=some (some v):=by
     cases q:φ[j]? with
     | none=>simp [q] at e2'
     | some o=>simp [q] at e2';rw [e2']
    have hk:=ok.frees (y,.free) (Pt hy) rfl;obtain⟨m',_,hl⟩:=I.loc;obtain⟨u,r,q⟩:=hl j y v eN hσ (.inr hk);refine⟨u,r,.inr ⟨gM hy,?_⟩⟩;rcases q with⟨k,_⟩|⟨_,c,e,z⟩
    ·have k':X.env.scope.names.lookup y=some .local:=k
     rw [k'] at hk;rcases hk with hk|hk <;> cases hk
    ·obtain⟨c',e'⟩:=Qw.mp (gK (env:=X.env) (cs:=[]) (.inl (Pt hy)))
     have ec:=sub _ _ e';rw [e] at ec;cases ec;obtain⟨o,ho,hd⟩:=z;exact⟨c,e',o,keep c o ho,hd⟩
 ·obtain⟨v,o,ho,hd⟩:=I.cell y c (sub _ _ e)
  exact⟨v,o,keep c o ho,hd⟩
noncomputable def Bb (X:Cx) (ifs:List Expr) (m:ST):Prop:=∀{pins:ar} {φ:Fr} {g:G} {L:Live} {s:OH} {w:Bool} {L':Live},Inv X pins φ g L s->m φ L=.ok w L' ->
 O3 (model X.prog X.w) X.A (forIn ifs true fun c r=>if r=true then do let ok <- isTrue c X.env (eval c X.env);pure (RL ok) else pure (RL r)) (TP X pins φ g w L') F0 s
theorem xS:Bb X [] yes:=fun I h=>by cases h;exact wpAny_tests_nil ⟨_,.refl _,I,rfl⟩
theorem xT {k:Expr} {m:ST} (h:PT X k m):Bb X [k] m:=fun I q=>wpAny_tests_one (h _ (.inl rfl) I q)
noncomputable def Tg.slots:Tg->List Nat
 | .one i=>[i]
 | .many is=>is
theorem ij {ψ:Fr}:∀{is:List Nat} {ts:List T} {ψ':Fr},(∀i∈is,ψ[i]?=some none)->(ψ'.length=ψ.length/\∀(i:Nat) t,ψ[i]?=some (some t)->ψ'[i]?=some (some t))->(M.sets is ts ψ').length=ψ.length/\∀(i:Nat) t,ψ[i]?=some (some t)->(sets is ts ψ')[i]?=some (some t)
 | [],_,_,_,h=>by unfold sets;exact h
 | _::_,[],_,_,h=>by unfold sets;exact h
 | j::is,t0::ts,ψ',hi,h=>by
  unfold sets;refine ij (fun i m=>hi i (OG _ m)) ⟨by simpa using h.1,fun i t e=>?_⟩;rw [S5]
  ·exact h.2 i t e
  ·rintro rfl
   rw [hi j OI] at e;cases e
theorem xU {ψ ψ1:Fr} {tg:Tg} {t:T} (hi:∀i∈tg.slots,ψ[i]?=some none) (h:tg.set t ψ=some ψ1):ψ.length=ψ1.length/\∀(i:Nat) t,ψ[i]?=some (some t)->ψ1[i]?=some (some t):=by
 cases tg with
 | one j =>
  cases h;have z:=ij (is:=[j]) (ts:=[t]) hi ⟨rfl,fun _ _ e=>e⟩
  exact⟨z.1.symm,z.2⟩
 | many is =>
  cases t with
  | tup ts =>
   have h':(if ts.length=is.length then some (sets is ts ψ) else none)=some ψ1:=h;split at h'
   ·cases h'
    have z:=ij (ts:=ts) hi ⟨rfl,fun _ _ e=>e⟩;exact⟨z.1.symm,z.2⟩
   ·cases h'
  | _=>cases h
theorem ki {tg iter elt:Expr} {ifs:List Expr} {scope:Scope} {N:List Str} {aM:List (Option Nat)} {mi:SI} {t:Tg} {mt:ST} {me:SE} {pos p:Pos} {use:Option (OE->Sem Unit)} {QQ:OE->OH->Prop} {xs:List T} {k:Live->Prop} {L1 L2:Live} {ys:List T}
  (ok:jf X scope N aM) (DJ:∀i∈t.slots,aM[i]?=some none) (hi:PI X tg iter mi) (hg:∀cl C s₀ H₀ ex,PG (b6 X scope cl N C s₀ H₀ ex) tg t)
  (ht:∀cl C s₀ H₀ ex,Bb (b6 X scope cl N C s₀ H₀ ex) ifs mt) (he:∀cl C s₀ H₀ ex,PE (b6 X scope cl N C s₀ H₀ ex) elt me) (hs:fY iter=true)
  (I:Inv X pins φ g L s) (h1:mi φ L=.ok (xs,k) L1) (h2:compLoop k t mt me (inner aM φ) xs [] L1=.ok ys L2)
  (fin:∀(D C:Pf) (g':G) (s':OH) (m:Str->Option OE) (us:List OE) (n:Nat),Le g g'->Inv X pins φ g' L2 s'->bz g' ys us->ys.length<=O6->s'.heap.get? D=some { cls:=.type "list",data:=.seq us.toArray n }->eI X pins g'.H D->D≠C->s'.heap.Ns C m->eI X pins g'.H C->compPost (model X.prog X.w) X.A F0 use QQ (.ref D) C (.ok .next) s') :
  O3 (model X.prog X.w) X.A (comprehension (.ListComp elt [⟨tg,iter,ifs,0⟩] scope pos) scope X.env p (newList []) false (eval iter X.env) use) QQ F0 s:=by
 have qM:∀z∈scope.names,z.2=.free->(X.env.cells.lookup z.1).isSome=true:=fun z hz nu=>by
  obtain⟨c,e⟩:=I.ok.has z.1 (ok.frees z hz nu);rw [e];rfl
 refine wpAny_comprehension_free (cl:=aE X.env scope.names []) (use:=use) rfl (qL hs) (ph qM) ok.kind ok.locs (a7 (hi I h1) fun v s1 h1=>a7 h1 fun HF s2 ⟨it,fp,tn,g2,e,l2,I2,T,bR,f2⟩=>?_);subst e;refine wpAny_newObj_type (wpAny_newFunctionEnv ok.jg (by intro y hy;simp at hy) (fun h₁ Bc Be=>?_) ok.kind);dsimp only at Bc Be ⊢;have Bf:∀b∈fp,b<s2.heap.objs.size:=fun b hb=>by
  obtain⟨o,e,_⟩:=T.obj 0 _ bR b hb;exact O4 e
 generalize hD:s2.heap.objs.size=D at Bf ⊢;have fD:eI X pins g2.H D:=I2.ud (TM hD) (I2.hok.fresh (TM hD))
 have hsz:(s2.heap.push { cls:=.type "list",dict:=none,data:=.seq ([]:List OE).toArray }).objs.size=D+1:=by rw [<- hD];exact Rl ..
 have I3:Inv X pins φ g2 L1 { s2 with heap:=s2.heap.push { cls:=.type "list",dict:=none,data:=.seq ([]:List OE).toArray } }:=I2.kept (t':=s2.toks) fun b u e=>OJ _ e
 have xy:tn 0 (s2.heap.push { cls:=.type "list",dict:=none,data:=.seq ([]:List OE).toArray }):=T.keep _ _ _ bR fun b _ o e=>OJ _ e
 have Ko:(s2.heap.push { cls:=.type "list",dict:=none,data:=.seq ([]:List OE).toArray }).get? D=some { cls:=.type "list",data:=.seq ([]:List OE).toArray }:=by rw [<- hD];exact OM _ rfl
 generalize NW:s2.heap.push { cls:=.type "list",dict:=none,data:=.seq ([]:List OE).toArray }=h3 at Bc Be hsz I3 xy Ko ⊢;have fx:∀b∈D::fp,eI X pins g2.H b:=fun b hb=>(OS.mp hb).elim (fun z=>by rw [z];exact fD) (f2 b)
 have Eg:∀b∈D::fp,b<h3.objs.size:=fun b hb=>by
  rw [hsz];rcases OS.mp hb with z|z
  ·rw [z];exact QJ _
  ·exact QK (Bf b z)
 have keep:∀b o,h3.get? b=some o->h₁.get? b=some o:=fun b o e=>Be.extBut b o (O8 (O4 e)) (OJ _ e)
 have I4:=pj (s3:={ s2 with heap:=h3 }) (ex:=D::fp) (tk:=s2.toks+([]:List (Str × OE)).length) ok I3 fx Eg Bc keep;have Kp:tn 0 h₁:=T.keep _ _ _ xy fun b _ o e=>keep b o e
 generalize xA:b6 X scope (aE X.env scope.names []) N ({ s2 with heap:=h3 }:OH).heap.objs.size { s2 with heap:=h3 } g2.H (D::fp)=X' at I4;have eA:X'.A=X.A:=by rw [<- xA] <;> rfl
 have eP:X'.prog=X.prog:=by rw [<- xA] <;> rfl
 have ew:X'.w=X.w:=by rw [<- xA] <;> rfl
 have ee:X'.env=compEnvC scope (aE X.env scope.names []) h3.objs.size X.env:=by rw [<- xA] <;> rfl
 have hG':PG X' tg t:=by rw [<- xA];exact hg _ _ _ _ _
 have hT':Bb X' ifs mt:=by rw [<- xA];exact ht _ _ _ _ _
 have hE':PE X' elt me:=by rw [<- xA];exact he _ _ _ _ _
 have pf:∀{H':Hp} {b:Pf},b∈D::fp->H' b=none->eI X' [] H' b:=fun {H' b} hb hn=>by
  refine⟨hn,?_,.inl ?_,fun y c e=>?_,fun p hp=>by simp at hp⟩
  ·rw [ee];exact O8 (Eg b hb)
  ·rw [<- xA];exact hb
  ·have e':(aE X.env scope.names []).lookup y=some c:=by rw [ee] at e;exact e
   exact(fx b hb).2.2.2.1 y c (gJ qM (fun _ _ q=>by simp at q) e')
 have Eh:D∉fp:=fun z=>Qj _ (Bf D z)
 have leave:∀{ψ:Fr} {g':G} {s':OH} {us:List OE} {n:Nat},Le g2 g'->Inv X' [] ψ g' L2 s'->bz g' ys us->ys.length<=O6->s'.heap.get? D=some { cls:=.type "list",data:=.seq us.toArray n }->g'.H D=none->compPost (model X.prog X.w) X.A F0 use QQ (.ref D) h3.objs.size (.ok .next) s':=fun {ψ g' s' us n} l J r hz hd hn=>by
  have un:Un (D::fp) g2.H g'.H h3 s'.heap:=by have z:=J.base;rw [<- xA] at z;exact z
  have xV:s'.os=s2.os:=by have z:=J.os;rw [<- xA] at z;exact z
  have Jx:=Inv.call (s:={ s2 with heap:=h3 }) (s':=s') (ch:=D::fp) I3 l xV un J.hok J.bare J.rel fun b hb=>⟨(fx b hb).2.2.1,(fx b hb).2.1,(fx b hb).2.2.2⟩
  obtain⟨m,xW,_⟩:=J.loc;have hn':s'.heap.Ns h3.objs.size m:=by rw [ee] at xW;exact xW
  have nu:g'.H h3.objs.size=none:=by have z:=J.free;rw [ee] at z;exact z
  exact fin D _ g' s' m us n (l2.trans l) Jx r hz hd ⟨hn,fD.2⟩ (O8 (by rw [hsz];exact QJ _)) hn' (I3.ud (OR _) nu)
 have loop:∀s₃:OH,s₃={ s2 with heap:=h₁,toks:=s2.toks+([]:List (Str × OE)).length } ->
   codeAny (model X.prog X.w) X.A (.compLoop (.ListComp elt [⟨tg,iter,ifs,0⟩] scope pos) 0 (.ref it) (.ref D) (compEnvC scope (aE X.env scope.names []) h3.objs.size X.env)) (compPost (model X.prog X.w) X.A F0 use QQ (.ref D) h3.objs.size) s₃:=by
  rintro s₃ rfl;have Ei:∀{ψ:Fr} {g':G} {L':Live} {s':OH} {o:Obj},Inv X' [] ψ g' L' s'->s'.heap.get? D=some o->g'.H D=none->(∀v,o.data≠.cell v)->Inv X' [(D,o)] ψ g' L' s':=fun {ψ g' L' s' o} J e n d=>J.fJ fun p hp=>by
   have z:p=(D,o):=by simpa using hp
   subst z;exact⟨e,n,(pf OI n).2.1,d⟩
  refine lN (fun n s'=>∃i acc us nn g' L',n=xs.length - i/\i<=xs.length/\Le g2 g'/\Inv X' [(D,{ cls:=.type "list",data:=.seq (us:List OE).toArray nn })] (inner aM φ) g' L' s'/\tn i s'.heap/\(∀b∈fp,g'.H b=none)/\bz g' acc us/\acc.length<=O6 /\
   compLoop k t mt me (inner aM φ) (xs.drop i) acc L'=.ok ys L2) ?_ xs.length ⟨0,[],[],0,g2,L1,rfl,Pg _,.refl g2,Ei I4 (keep D _ Ko) fD.1 (fun v z=>nomatch z),Kp,fun b hb=>(f2 b hb).1,.nil,Pg _,h2⟩
  intro n s' hj;refine Dy fun G n9=>?_
  obtain⟨i,acc,us,nn,g3,L3,en,hi,l3,J,cA,Kq,ra,hz,eq⟩:=hj;refine n9 ?_;clear n9 G;subst en;have HK:∀{H':Hp} {o:Obj},(∀b∈fp,H' b=none)->∀b∈fp,eI X' [(D,o)] H' b:=fun {H' o} hn b hb=>by
   have z:=pf (OG _ hb) (hn b hb);refine⟨z.1,z.2.1,z.2.2.1,z.2.2.2.1,fun p hp e=>?_⟩;have zp:p=(D,o):=by simpa using hp
   subst zp;exact Eh (by rw [show D=b from e];exact hb)
  by_cases bT:i<xs.length
  ·rw [PV bT] at eq
   unfold compLoop at eq;split at eq
   ·rename_i hk
    obtain⟨hk,Ej⟩:=hk;have z:=T.item eP ew (E:=F0) l3 J (HK Kq) cA hk (Ge9 bT)
    rw [eA] at z;refine wpAny_mono z (fun r s4 ⟨u,hr,h4⟩=>?_) fun _ _ z=>z
    subst hr;refine wpAny_mono h4 (fun _ s5 ⟨g5,l5,J5,r5,A9,HI⟩=>?_) fun _ _ z=>z
    have Ly:=J5.pinned (HK HI) (T.obj _ _ A9);cases ef:t.set xs[i] (inner aM φ) with
    | none=>rw [ef] at eq;cases eq
    | some ψ1 =>
     simp only [ef] at eq;have wk:=xU (fun i hi=>by show(aM.map _)[i]?=_;rw [Pb,DJ i hi];rfl) ef
     have zg:=hG' Ly r5 ef;rw [eP,ew,eA,ee] at zg;refine a7 zg fun _ s6 J6=>?_
     obtain⟨b,L7,e7,eq⟩:=R.of eq;have zt:=hT' J6 e7
     rw [eP,ew,eA,ee] at zt;refine a7 zt fun b' s7 ⟨g7,l7,J7,e⟩=>?_
     subst e;have again:∀{g8:G} {L8:Live} {s8:OH} {fu:List M.T} {us':List OE} {n':Nat},Le g7 g8->Inv X' [] ψ1 g8 L8 s8->(∀b∈fp,∀o,s5.heap.get? b=some o->s8.heap.get? b=some o/\g8.H b=none)->s8.heap.get? D=some { cls:=.type "list",data:=.seq us'.toArray n' }->g8.H D=none->bz g8 fu us'->fu.length<=O6 ->
       compLoop k t mt me (inner aM φ) (xs.drop (i+1)) fu L8=.ok ys L2->∃m,m<xs.length - i/\∃j acc us nn g' L',m=xs.length - j/\j<=xs.length/\Le g2 g'/\Inv X' [(D,{ cls:=.type "list",data:=.seq (us:List OE).toArray nn })] (inner aM φ) g' L' s8/\tn j s8.heap/\(∀b∈fp,g'.H b=none)/\bz g' acc us/\acc.length<=O6/\compLoop k t mt me (inner aM φ) (xs.drop j) acc L'=.ok ys L2:=fun {g8 L8 s8 fu us' n'} l8 J8 kf hd hn Lz hz' LA =>
      ⟨xs.length - (i+1),by omega,i+1,fu,us',n',g8,L8,rfl,bT,((l3.trans l5).trans l7).trans l8,Ei (J8.weak wk.1 wk.2) hd hn (fun v z=>nomatch z),T.keep _ _ _ A9 fun b hb o e=>(kf b (hb.resolve_right (Nat.succ_ne_zero _)) o e).1,fun b hb=>(let ⟨o,e,_⟩:=T.obj _ _ A9 b hb;(kf b hb o e).2),Lz,hz',LA⟩
     have pk:∀{g8:G} {L8:Live} {s8:OH},Inv X' ([(D,{ cls:=.type "list",data:=.seq us.toArray nn })]++fp.filterMap fun b=>(s5.heap.get? b).map fun o=>(b,o)) ψ1 g8 L8 s8->∀b∈fp,∀o,s5.heap.get? b=some o->s8.heap.get? b=some o/\g8.H b=none:=fun J8 b hb o e =>
      let z:=J8.pin (b,o) (Pn _ (fX hb e));⟨z.1,z.2.1⟩
     cases b' with
     | false =>
      obtain⟨d1,d2,_⟩:=J7.pin (D,_) (Pu _ OI);exact again (.refl g7) (J7.fJ fun p hp=>by simp at hp) (pk J7) d1 d2 (ra.le ((l5).trans l7)) hz eq
     | true =>
      obtain⟨y,L8,e8,eq⟩:=R.of eq;have ze:=hE' J7 e8
      rw [eP,ew,eA,ee] at ze;refine a7 ze fun yv s8 ⟨g8,l8,J8,r8⟩=>?_
      obtain⟨d1,d2,_⟩:=J8.pin (D,_) (Pu _ OI);have lu:=OX ra
      refine call_meets S7 ⟨_,d1,rfl⟩ F.entry_list_append (F.args_list_append_2 _ _) (PySem.list_append D us.toArray nn yv (by rw [Qk,<- lu];exact hz)) ⟨d1,?_⟩;have q:=Vy d1 (fun x=>x.push yv)
      have ot:∀b,b≠D->(s8.heap.update D (Qx fun x=>x.push yv)).get? b=s8.heap.get? b:=fun b hb=>Po s8.heap _ (Qz hb)
      have J9:Inv X' [] ψ1 g8 L8 { s8 with heap:=s8.heap.update D (Qx fun x=>x.push yv) }:=(J8.fJ (pins':=[]) fun p hp=>by simp at hp).turned (t':=s8.toks) (ch:=[D]) (fun b o hb e=>(ot b (by simpa using hb)).trans e) fun b hb=>by
       have z:b=D:=by simpa using hb
       subst z;exact pf OI d2
      refine again (us':=us++[yv]) l8 J9 (fun b hb o e=>?_) (by simpa using q) d2 (Paired.snoc (ra.le ((l5.trans l7).trans l8)) r8) (by simp;show acc.length<lim;exact Ej) eq;have z:=pk J8 b hb o e
      exact⟨(ot b fun e=>Eh (e ▸ hb)).trans z.1,z.2⟩
   ·cases eq
  ·have ei:i=xs.length:=by omega
   rw [Q6 (by omega)] at eq;unfold compLoop at eq;split at eq
   ·rename_i hk
    cases eq;have z:=T.done eP ew (E:=F0) l3 J (HK Kq) cA hk ei
    rw [eA] at z;refine wpAny_mono z (fun r s4 ⟨hr,J4⟩=>?_) fun _ _ z=>z
    subst hr;obtain⟨d1,d2,_⟩:=J4.pin (D,_) OI;exact leave l3 (J4.fJ fun p hp=>by simp at hp) ra hz d1 d2
   ·cases eq
 exact codeAny_compStart_list (loop _ rfl) (T.self _ 0 _ _ _ Kp (loop _ rfl))
theorem nv {fz:Bool} {D:Pf} {ys:List T} {us:List OE} {n:Nat} {w:T} {L':Live} (I:Inv X pins φ g L s) (r:bz g ys us) (hz:ys.length<=O6) (hd:s.heap.get? D=some { cls:=.type "list",data:=.seq us.toArray n }) (f:eI X pins g.H D) (h:mk fz (.lst ys) L=.ok w L'):∃g',Le g g'/\Inv X pins φ g' L' s/\RT g' none w (.ref D)/\∀b,b≠D->g'.H b=g.H b:=by
 unfold mk at h;split at h
 ·cases h
  exact⟨_,Le.lay f.1,I.Ef f hd,r.lst (o:=default) (Le.lay f.1) (.inl rfl) (.inl ak) hz,fun b hb=>az hb⟩
 ·cases h
  refine⟨_,Le.new f.1,I.Ba f hd (r.lst (o:=default) (Le.new f.1) (.inr rfl) (.inl ak) hz),?_,fun b hb=>az hb⟩;have:=I.rel.len
  exact .ref (p:=(D,D)) (by show at_ ((_,_)::g.α) _=_;rw [<- this];exact fW)
theorem qN {fz:Bool} {tg iter elt:Expr} {ifs:List Expr} {scope:Scope} {N:List Str} {aM:List (Option Nat)} {mi:SI} {t:Tg} {mt:ST} {me:SE} {pos:Pos}
  (ok:jf X scope N aM) (DJ:∀i∈t.slots,aM[i]?=some none) (hi:PI X tg iter mi) (hg:∀cl C s₀ H₀ ex,PG (b6 X scope cl N C s₀ H₀ ex) tg t)
  (ht:∀cl C s₀ H₀ ex,Bb (b6 X scope cl N C s₀ H₀ ex) ifs mt) (he:∀cl C s₀ H₀ ex,PE (b6 X scope cl N C s₀ H₀ ex) elt me) (hs:fY iter=true):PE X (.ListComp elt [⟨tg,iter,ifs,0⟩] scope pos) (comp fz mi aM t mt me):=fun I h=>by
 obtain⟨⟨xs,k⟩,L1,e1,h⟩:=R.of h;obtain⟨ys,L2,e2,h⟩:=R.of h;rw [eval_ListComp];refine ki (use:=none) ok DJ hi hg ht he hs I e1 e2 fun D C g' s' m us n l J r hz hd fD hne hn fC=>⟨m,hn,fun h' sb=>?_⟩
 have J':=J.turned (t':=s'.toks) (h':=h') (ch:=[C]) (fun b o hb e=>(sb.2 b (by simpa using hb)).trans e) fun b hb=>by
  have z:b=C:=by simpa using hb
  subst z;exact fC
 obtain⟨g2,l2,J2,r2,_⟩:=nv J' r hz ((sb.2 D hne).trans hd) fD h;exact⟨g2,l.trans l2,J2,r2⟩
theorem xX {i:Nat} {y:Str} {py Bg:Pos} {fz:Bool} {tg iter elt:Expr} {ifs:List Expr} {scope:Scope} {N:List Str} {aM:List (Option Nat)} {mi:SI} {t:Tg} {mt:ST} {me:SE} {pos:Pos} (S:o8 X i y)
  (ok:jf X scope N aM) (DJ:∀i∈t.slots,aM[i]?=some none) (hi:PI X tg iter mi) (hg:∀cl C s₀ H₀ ex,PG (b6 X scope cl N C s₀ H₀ ex) tg t)
  (ht:∀cl C s₀ H₀ ex,Bb (b6 X scope cl N C s₀ H₀ ex) ifs mt) (he:∀cl C s₀ H₀ ex,PE (b6 X scope cl N C s₀ H₀ ex) elt me) (hs:fY iter=true) :
  PS X (.Assign [.Name y py] (.ListComp elt [⟨tg,iter,ifs,0⟩] scope pos) Bg) (asg (.one i) (comp fz mi aM t mt me)):=fun {pins φ g L s} I h=>by
 cases hb:(X.env.blockKind == .function && X.env.kindOf y == some .local && py.line == pos.line && !(scope.names.any fun(n,k)=>n == y && (k == .local || k == .cell))) with
 | false =>
  have hsw:swapsWith (.ListComp elt [⟨tg,iter,ifs,0⟩] scope pos) (some (.Name y py)) Bg.line X.env=pure false:=by
   show(pure _:Sem Bool)=pure false;rw [<- hb];rfl
  exact uh (qN ok DJ hi hg ht he hs) (lK S) hsw rfl rfl I h
 | true =>
  have hsw:swapsWith (.ListComp elt [⟨tg,iter,ifs,0⟩] scope pos) (some (.Name y py)) Bg.line X.env=pure true:=by
   show(pure _:Sem Bool)=pure true;rw [<- hb];rfl
  obtain⟨v,L3,e0,e2,h⟩:=gF h;rw [show asg (.one i) (comp fz mi aM t mt me) φ L=.nx (φ.set i (some v)) L3 from e2];obtain⟨⟨xs,k⟩,L1,e1,e0⟩:=R.of e0;obtain⟨ys,L2,e3,e0⟩:=R.of e0;rw [exec_Assign_Name_used _ _ _ _ hsw];refine OB (wpAny_standAt (OB ?_));show O3 _ X.A (do let _ <- comprehension (.ListComp elt [⟨tg,iter,ifs,0⟩] scope pos) scope X.env _ (newList []) false (eval iter X.env) (some (assign (.Name y py) X.env))) _ _ s
  refine OB (wpAny_mono (ki (QQ:=fun _ s'=>SP X pins g (.nx (φ.set i (some v)) L3) .next s') (use:=some (assign (.Name y py) X.env)) ok DJ hi hg ht he hs I e1 e3 fun D C g' s' m us n l J r hz hd fD hne hn fC=>?_) (fun _ s' hq=>OC (OC hq)) fun _ _ e=>e);obtain⟨g2,l2,J2,r2,kp⟩:=nv J r hz hd fD e0;have LB:eI X pins g2.H C:=⟨(kp C (Qz hne)).trans fC.1,fC.2⟩
  refine wpAny_assign_Name (d7 J2 S r2 fun s2 I2 uo=>?_);obtain⟨a,sb,ha⟩:=uo;have HL:C≠a:=by
   rcases ha with rfl|e
   ·exact fC.2.1
   ·exact fun z=>fC.2.2.2.1 y a e z.symm
  exact⟨m,hn.sameBut sb HL,fun NY LC=>⟨g2,l.trans l2,I2.turned (t':=s2.toks) (ch:=[C]) (fun b o hb e=>(LC.2 b (by simpa using hb)).trans e) fun b hb=>by
   have z:b=C:=by simpa using hb
   subst z;exact LB⟩⟩
end
theorem gO {n:Nat}:∀{xs:List T},iQ n xs=true↔∀(i:Nat) x,xs[i]?=some x->lt n x=true
 | []=>by simp [iQ]
 | x::xs=>by
  rw [iQ,ON,gO];constructor
  ·rintro⟨h1,h2⟩ i y e
   cases i with
   | zero=>simp at e;subst e;exact h1
   | succ i=>exact h2 i y (by simpa using e)
  ·exact fun h=>⟨h 0 x rfl,fun i y e=>h (i+1) y (by simpa using e)⟩
theorem iY {n:Nat}:∀{xs:List (T × T)},DA n xs=true↔∀(i:Nat) x,xs[i]?=some x->lt n x.1=true/\lt n x.2=true
 | []=>by simp [DA]
 | (a,b)::xs=>by
  rw [DA,ON,ON,iY];constructor
  ·rintro⟨h1,h2⟩ i y e
   cases i with
   | zero=>simp at e;subst e;exact h1
   | succ i=>exact h2 i y (by simpa using e)
  ·exact fun h=>⟨h 0 _ rfl,fun i y e=>h (i+1) y (by simpa using e)⟩
theorem ur {n:Nat}:∀{xs:List (Str × T)},DB n xs=true->∀f x,xs.lookup f=some x->lt n x=true
 | [],_,f,x,e=>by simp at e
 | (a,b)::xs,h,f,x,e=>by
  rw [DB,ON] at h;rw [Ph] at e;split at e
  ·cases e;exact h.1
  ·exact ur h.2 f x e
theorem RT.re {g' eM:G} {n0:Nat} (hr:∀n p,n<n0->at_ g'.α n=some p->at_ eM.α n=some p) (m5:∀a o,g'.kn true a o->eM.kn true a o) (hm:eM.cls=g'.cls) (hw:eM.w=g'.w) {p:Option (Pf × Pf)} {t:T} {v:OE} (h:RT g' p t v) :
  ∀{q:Option (Pf × Pf)},lt n0 t=true->(p=none->q=none)->(∀a d b o,qG p a d->(b=a\/b=d)->g'.kn p.isNone b o->qG q a d/\eM.kn q.isNone b o)->RT eM q t v:=by
 have k0:∀a d b o,qG none a d->(b=a\/b=d)->g'.kn (none:Option (Pf × Pf)).isNone b o->qG none a d/\eM.kn (none:Option (Pf × Pf)).isNone b o:=fun a d b o _ _ k=>⟨.inl rfl,m5 b o k⟩
 induction h with
 | bK=>intro q _ hp _;rw [hp rfl];exact .bK
 | bl b=>intro q _ hp _;rw [hp rfl];exact .bl b
 | int i t=>intro q _ hp _;rw [hp rfl];exact .int i t
 | str s t h=>intro q _ hp _;rw [hp rfl];exact .str s t h
 | ty n=>intro q _ hp _;rw [hp rfl];exact .ty n
 | own h=>intro q _ hp _;rw [hp rfl];exact .own (by rw [hm];exact h)
 | ref h=>intro q hl hp _;rw [hp rfl];exact .ref (hr _ _ (by rw [lt] at hl;exact of_decide_eq_true hl) h)
 | tup hk hc hd hz hl hi ih =>
  intro q bT hp hk';rw [hp rfl];rw [lt] at bT;exact .tup (m5 _ _ hk) hc hd hz hl fun i x v e1 e2=>ih i x v e1 e2 (gO.mp bT i x e1) (fun _=>rfl) k0
 | lst ht hk hz hl hi ih =>
  intro q bT hp hk';have z:=hk' _ _ _ _ ht (.inl rfl) hk
  rw [lt] at bT;exact .lst z.1 z.2 hz hl fun i x v e1 e2=>ih i x v e1 e2 (gO.mp bT i x e1) (fun _=>rfl) k0
 | aO ht hk hx hd hz hl hn hs hh h1 h2 i1 i2 =>
  intro q bT hp hk';have z:=hk' _ _ _ _ ht (.inl rfl) hk
  rw [lt] at bT;exact .aO z.1 z.2 hx hd hz hl hn hs (by rw [hw];exact hh) (fun i x v e1 e2=>i1 i x v e1 e2 (iY.mp bT i x e1).1 (fun _=>rfl) k0) fun i x v e1 e2=>i2 i x v e1 e2 (iY.mp bT i x e1).2 (fun _=>rfl) k0
 | obj ht hne hc hk m4 hd hs hu hz hn hl hi ih =>
  intro q bT hp hk';have z:=hk' _ _ _ _ ht (.inl rfl) hk
  have z2:=hk' _ _ _ _ ht (.inr rfl) m4;rw [lt] at bT;exact .obj z.1 hne (by rw [hm];exact hc) z.2 z2.2 hd hs hu hz hn hl fun f x v e1 e2=>ih f x v e1 e2 (ur bT f x e1) (fun _=>rfl) k0
theorem qO {n:Nat}:∀{xs:List (Str × T)},(∀p∈xs,lt n p.2=true)->DB n xs=true
 | [],_=>rfl
 | (a,b)::xs,h=>by
  rw [DB,h _ OI,qO fun p hp=>h p (OG _ hp)];rfl
theorem gP {α β:Type} {f:α->Option β}:∀{xs:List α} {ys:List β},xs.mapM f=some ys->xs.length=ys.length/\∀(i:Nat) y,ys[i]?=some y->∃x,xs[i]?=some x/\f x=some y
 | [],ys,h=>by simp at h;subst h;exact⟨rfl,fun i y e=>by simp at e⟩
 | x::xs,ys,h=>by
  rw [R2] at h;cases e1:f x with
  | none=>rw [e1] at h;cases h
  | some y =>
   cases e2:xs.mapM f with
   | none=>rw [e1,e2] at h;cases h
   | some zs =>
    rw [e1,e2] at h;cases h;obtain⟨l,a⟩:=gP e2;refine⟨by simp [l],fun i z e=>?_⟩;cases i with
    | zero=>simp at e;subst e;exact⟨x,rfl,e1⟩
    | succ i=>exact a i z (by simpa using e)
theorem fK {g' eM:G} {n0:Nat} {L':Live} (hr:∀n p,n<n0->at_ g'.α n=some p->at_ eM.α n=some p) (m5:∀a o,g'.kn true a o->eM.kn true a o) (hc:∀n c,n0<=n->at_ L' n=some c->(∀k,eY n0 L' k c=none)\/∃p,at_ g'.α n=some p/\RT g' (some p) c (.ref p.1)/\∀b o,(b=p.1\/b=p.2)->g'.kn false b o->eM.kn true b o) (hm:eM.cls=g'.cls) (hw:eM.w=g'.w) :
  ∀(k:Nat) {p:Option (Pf × Pf)} {t t':T} {v:OE},RT g' p t v->(∀q,p=some q->∀b o,(b=q.1\/b=q.2)->g'.kn false b o->eM.kn true b o)->eY n0 L' k t=some t'->RT eM none t' v
 | 0,_,_,_,_,_,_,e=>by cases e
 | k+1,p,t,t',v,h,hp,e=>by
  have kn:∀a d b o,qG p a d->(b=a\/b=d)->g'.kn p.isNone b o->qG none a d/\eM.kn (none:Option (Pf × Pf)).isNone b o:=fun a d b o ht hb hk=>by
   refine⟨.inl rfl,?_⟩;rcases ht with rfl|rfl
   ·exact m5 b o hk
   ·exact hp _ rfl b o hb hk
  unfold eY at e;split at e
  ·rename_i hl
   cases e;exact h.re hr m5 hm hw hl (fun _=>rfl) kn
  ·rename_i bT
   have Hg:∀q:Pf × Pf,(none:Option (Pf × Pf))=some q->∀b o,(b=q.1\/b=q.2)->g'.kn false b o->eM.kn true b o:=fun q z=>by cases z
   cases h with
   | bK=>cases e
   | bl b=>cases e
   | int i t=>cases e
   | str s t h=>cases e
   | ty n=>cases e
   | own h=>cases e
   | ref h =>
    rename_i n p;have hn:n0<=n:=Nat.le_of_not_lt fun z=>bT (by rw [lt];exact decide_eq_true z)
    cases ec:at_ L' n with
    | none=>simp only [ec] at e;cases e
    | some c =>
     simp only [ec] at e;rcases hc n c hn ec with z|⟨q,h1,h2,h3⟩
     ·rw [z] at e;cases e
     ·rw [h] at h1;cases h1
      exact fK hr m5 hc hm hw k h2 (fun q z=>by cases z;exact h3) e
   | tup hk DF hd hz hl hi =>
    obtain⟨ys,e1,rfl⟩:=OW.mp e;obtain⟨len,at'⟩:=gP e1;exact .tup (m5 _ _ hk) DF hd (by rw [<- len];exact hz) (by rw [<- len];exact hl) fun i y v q1 q2=>let ⟨x,x1,x2⟩:=at' i y q1;fK hr m5 hc hm hw k (hi i x v x1 q2) Hg x2
   | lst ht hk hz hl hi =>
    obtain⟨ys,e1,rfl⟩:=OW.mp e;obtain⟨len,at'⟩:=gP e1;have z:=kn _ _ _ _ ht (.inl rfl) hk
    exact .lst z.1 z.2 (by rw [<- len];exact hz) (by rw [<- len];exact hl) fun i y v q1 q2=>let ⟨x,x1,x2⟩:=at' i y q1;fK hr m5 hc hm hw k (hi i x v x1 q2) Hg x2
   | aO ht hk hx hd hz hl hn hs hh h1 h2 =>
    rename_i a o es nn ks;obtain⟨ys,e1,rfl⟩:=OW.mp e;obtain⟨len,at'⟩:=gP e1;have z:=kn _ _ _ _ ht (.inl rfl) hk
    have at2:∀(i:Nat) y,ys[i]?=some y->∃x,ks[i]?=some x/\lt n0 x.1=true/\x.1=y.1/\eY n0 L' k x.2=some y.2:=fun i y q=>by
     obtain⟨x,x1,x2⟩:=at' i y q;split at x2
     ·rename_i HM
      obtain⟨z,z1,rfl⟩:=OW.mp x2;exact⟨x,x1,HM,rfl,z1⟩
     ·cases x2
    refine .aO z.1 z.2 hx hd (by rw [<- len];exact hz) (by rw [<- len];exact hl) ?_ hs (fun i y v q1 q2=>?_) (fun i y v q1 q2=>?_) fun i y v q1 q2=>?_
    ·have:ys.map (·.1)=ks.map (·.1):=T3 fun i=>by
      rw [Pb,Pb];cases q:ys[i]? with
      | none=>rw [Rf (by rw [len];exact TS.mp q)]
      | some y=>obtain⟨x,x1,_,x3,_⟩:=at2 i y q;rw [x1];show some y.1=some x.1;rw [x3]
     rw [this];exact hn
    ·obtain⟨x,x1,_,x3,_⟩:=at2 i y q1;rw [hw,<- x3];exact hh i x v x1 q2
    ·obtain⟨x,x1,x2,x3,_⟩:=at2 i y q1
     rw [<- x3];exact(h1 i x v x1 q2).re hr m5 hm hw x2 (fun _=>rfl) fun a d b o _ _ k=>⟨.inl rfl,m5 b o k⟩
    ·obtain⟨x,x1,_,_,x4⟩:=at2 i y q1;exact fK hr m5 hc hm hw k (h2 i x v x1 q2) Hg x4
   | obj ht hne DF hk m4 hd hs hu hz hn hl hi =>
    rename_i a d C od es nn cn fs;obtain⟨ys,e1,rfl⟩:=OW.mp e;obtain⟨len,at'⟩:=gP e1;have z:=kn _ _ _ _ ht (.inl rfl) hk
    have z2:=kn _ _ _ _ ht (.inr rfl) m4;have lk:∀(fs ys:List (Str × T)),fs.length=ys.length->(∀(i:Nat) y,ys[i]?=some y->∃x,fs[i]?=some x/\x.1=y.1/\eY n0 L' k x.2=some y.2)->∀f,(∀y,ys.lookup f=some y->∃x,fs.lookup f=some x/\eY n0 L' k x=some y)/\(ys.lookup f).isSome=(fs.lookup f).isSome:=fun fs=>by
     induction fs with
     | nil=>intro ys hl _ f;cases ys with
      | nil=>exact⟨fun y e=>by simp at e,rfl⟩
      | cons _ _=>simp at hl
     | cons x fs ih =>
      intro ys hl h f;cases ys with
      | nil=>simp at hl
      | cons y ys =>
       obtain⟨x',q1,q2,q3⟩:=h 0 y rfl;simp at q1;subst q1;have r:=ih ys (by simpa using hl) (fun i y e=>by simpa using h (i+1) y (by simpa using e)) f
       obtain⟨xa,xb⟩:=x;obtain⟨ya,yb⟩:=y;have q2:xa=ya:=q2
       subst q2;rw [Ph,Ph];cases f == xa with
       | true=>exact⟨fun y e=>⟨xb,rfl,by cases e;exact q3⟩,rfl⟩
       | false=>exact r
    have at2:=lk _ ys len fun i y q=>by
     obtain⟨x,x1,x2⟩:=at' i y q;obtain⟨z,z1,rfl⟩:=OW.mp x2;exact⟨x,x1,rfl,z1⟩
    have names:ys.map (·.1)=fs.map (·.1):=T3 fun i=>by
     rw [Pb,Pb];cases q:ys[i]? with
     | none=>rw [Rf (by rw [len];exact TS.mp q)]
     | some y =>
      obtain⟨x,x1,x2⟩:=at' i y q;obtain⟨z,z1,rfl⟩:=OW.mp x2;rw [x1];rfl
    exact .obj z.1 hne (by rw [hm];exact DF) z.2 z2.2 hd hs hu (by rw [<- len];exact hz) (by rw [names];exact hn) (fun f=>by rw [(at2 f).2];exact hl f) fun f y v q1 q2=>let ⟨x,x1,x2⟩:=(at2 f).1 y q1;fK hr m5 hc hm hw k (hi f x v x1 q2) Hg x2
theorem Bh {g' eM:G} {n0:Nat} {L':Live} (hr:∀n p,n<n0->at_ g'.α n=some p->at_ eM.α n=some p) (m5:∀a o,g'.kn true a o->eM.kn true a o) (sH:∀n p b o,n0<=n->at_ g'.α n=some p->(b=p.1\/b=p.2)->g'.kn false b o->eM.kn true b o) (hm:eM.cls=g'.cls) (hw:eM.w=g'.w) (r:Rel g' L') (k:Nat) {t t':T} {v:OE} (h:RT g' none t v) (e:eY n0 L' k t=some t'):RT eM none t' v :=
 fK hr m5 (fun n c hn q=>let ⟨p,h1,h2⟩:=r.cells n c q;.inr ⟨p,h1,h2,fun b o hb=>sH n p b o hn h1 hb⟩) hm hw k h (fun q z=>by cases z) e
theorem lO {α:Type} {n0 n:Nat}:∀{L:List α},n<n0->n0<=L.length->at_ (L.drop (L.length - n0)) n=at_ L n
 | [],h1,h2=>by simp at h2;omega
 | c::L,h1,h2=>by
  by_cases e:n0=(c::L).length
  ·rw [<- e,Nat.sub_self,TU]
  ·have h3:n0<=L.length:=by simp at h2 e;omega
   have e2:(c::L).length - n0=(L.length - n0)+1:=by simp;omega
   rw [e2,List.drop_succ_cons,lO h1 h3];have z:¬ n=L.length:=by omega
   conv=>rhs;unfold at_;rw [if_neg z]
theorem uu {α:Type}:∀{fs:List (Str × α)} {p:Str × α},(fs.map (·.1)).Nodup->p∈fs->fs.lookup p.1=some p.2
 | (a,b)::fs,p,hn,hp=>by
  rw [Ph];rw [OZ,Qc] at hn;rcases OS.mp hp with rfl|hp
  ·simp
  ·have:(p.1 == a)=false:=by
    cases e:p.1 == a with
    | false=>rfl
    | true=>exact absurd (OT.mpr ⟨p,hp,by simpa using e⟩) hn.1
   rw [this];exact uu hn.2 hp
theorem RT.lt {g:G} {p:Option (Pf × Pf)} {t:T} {v:OE} (h:RT g p t v):M.lt g.α.length t=true:=by
 induction h with
 | ref h=>rw [M.lt];exact decide_eq_true (fO h)
 | tup hk hc hd hz hl hi ih =>
  rw [M.lt,gO];intro i x e;have:=(OY.mp e).1
  exact ih i x _ e (by rw [OO (by omega)])
 | lst ht hk hz hl hi ih =>
  rw [M.lt,gO];intro i x e;have:=(OY.mp e).1
  exact ih i x _ e (by rw [OO (by omega)])
 | aO ht hk hx hd hz hl hn hs hh h1 h2 i1 i2 =>
  rw [M.lt,iY];intro i x e;have:=(OY.mp e).1
  exact⟨i1 i x _ e (by rw [OO (by omega)]),i2 i x _ e (by rw [OO (by omega)])⟩
 | obj ht hne hc hk m4 hd hs hu hz hn hl hi ih =>
  rw [M.lt];refine qO fun q hq=>?_
  have e:=uu hn hq;obtain⟨v,ev⟩:=Qw.mp ((hl q.1).symm.trans (by rw [e];rfl));exact ih q.1 q.2 v e ev
 | _=>rfl
theorem Bi {g g':G} {L L' Lo:Live} {t t':T} {u:OE} (l:Le g g') (r0:Rel g L) (r:Rel g' L') (h:RT g' none t u) (e:fin L t L'=.ok t' Lo) :
  ∃eM,Le g eM/\Rel eM Lo/\RT eM none t' u/\(∀a b o,eM.H a=some (b,o)->∃b',g'.H a=some (b',o))/\(∀a,g'.H a=none->eM.H a=none)/\∀a o,g'.H a=some (true,o)->eM.H a=some (true,o):=by
 classical
 unfold fin at e;split at e
 ·rename_i ho
  have n0:L.length<=L'.length:=by
   cases hn:L.length with
   | zero=>exact Pg _
   | succ m =>
    obtain⟨p,hp⟩:=lL (L:=g.α) (n:=m) (by rw [r0.len];omega);have:=fO (l.α _ _ hp)
    rw [r.len] at this;omega
  cases ef:eY L.length L' 9 t with
  | none=>rw [ef] at e;cases e
  | some t1 =>
   rw [ef] at e;cases e
   let nw:Pf->Prop:=fun a=>∃n p,L.length<=n/\at_ g'.α n=some p/\(a=p.1\/a=p.2)
   let eM:G:={ g' with H:=fun a=>if nw a then (g'.H a).map fun q=>(true,q.2) else g'.H a,α:=g'.α.drop (g'.α.length - L.length) }
   have hH:∀a,eM.H a=if nw a then (g'.H a).map fun q=>(true,q.2) else g'.H a:=fun _=>rfl
   have hα:∀n,n<L.length->at_ eM.α n=at_ g'.α n:=fun n hn=>lO hn (by rw [r.len];exact n0)
   have eY:∀a o,g'.H a=some (true,o)->eM.H a=some (true,o):=fun a o q=>by
    rw [hH];split
    ·rw [q];rfl
    ·exact q
   have m5:∀a o,g'.kn true a o->eM.kn true a o:=fun a o q=>q.elim (fun q=>.inl (eY a o q)) .inr
   have sH:∀n p b o,L.length<=n->at_ g'.α n=some p->(b=p.1\/b=p.2)->g'.kn false b o->eM.kn true b o:=fun n p b o hn hp hb q=>by
    rcases q with q|⟨z,_⟩
    ·refine .inl ?_
     rw [hH,if_pos ⟨n,p,hn,hp,hb⟩,q];rfl
    ·cases z
   have hr:∀n p,n<L.length->at_ g'.α n=some p->at_ eM.α n=some p:=fun n p hn hp=>(hα n hn).trans hp
   have Ek:∀n p,n<L.length->at_ g'.α n=some p->¬ nw p.1/\¬ nw p.2:=fun n p hn hp=>by
    refine⟨?_,?_⟩ <;>
    ·rintro⟨m,q,hm,hq,hb⟩
     have ap:=r.apart n m p q hp hq (by omega);rcases hb with hb|hb
     ·first|exact ap.1 hb|exact ap.2.2.1 hb
     ·first|exact ap.2.1 hb|exact ap.2.2.2 hb
   refine⟨eM,⟨fun a o q=>eY a o (l.f a o q),fun n p q=>hr n p (by rw [<- r0.len];exact fO q) (l.α n p q),l.B,l.m,l.w⟩,⟨?_,fun n c q=>?_,fun n m p q h1 h2=>?_,fun n p q=>?_⟩,Bh hr m5 sH rfl rfl r 9 h ef,fun a b o q=>?_,fun a q=>?_,eY⟩
   ·show(g'.α.drop _).length=_
    rw [PN,PN,r.len]
   ·have hn:n<L.length:=by have:=fO q;rw [PN] at this;omega
    have q':at_ L' n=some c:=(lO hn n0).symm.trans q
    obtain⟨p,h1,h2⟩:=r.cells n c q';have bT:M.lt L.length c=true:=by
     rcases ho n c q with z|z
     ·obtain⟨p0,_,z2⟩:=r0.cells n c z
      rw [<- r0.len];exact z2.lt
     ·exact z
    refine⟨p,hr n p hn h1,h2.re hr m5 rfl rfl bT (fun z=>by cases z) fun a d b o ht hb hk=>⟨ht,?_⟩⟩;have no:=Ek n p hn h1
    rcases ht with z|z
    ·cases z
    ·cases z
     rcases hk with hk|⟨z,_⟩
     ·refine .inl ?_
      rw [hH,if_neg (by rcases hb with hb|hb <;> rw [hb];exact no.1;exact no.2)];exact hk
     ·cases z
   ·have hn:n<L.length:=by have:=fO h1;rw [PN,r.len] at this;omega
    have hm:m<L.length:=by have:=fO h2;rw [PN,r.len] at this;omega
    exact r.apart n m p q ((hα n hn).symm.trans h1) ((hα m hm).symm.trans h2)
   ·have hn:n<L.length:=by have:=fO q;rw [PN,r.len] at this;omega
    have q':=(hα n hn).symm.trans q;obtain⟨⟨o1,h1⟩,o2,h2⟩:=r.live n p q';have no:=Ek n p hn q'
    exact⟨⟨o1,by rw [hH,if_neg no.1];exact h1⟩,o2,by rw [hH,if_neg no.2];exact h2⟩
   ·rw [hH] at q
    split at q
    ·obtain⟨z,z1,z2⟩:=OW.mp q
     cases z2;exact⟨z.1,z1⟩
    ·exact⟨b,q⟩
   ·rw [hH,q];split <;> rfl
 ·cases e
structure bY (k:Nat) (A:Pm):Prop where
 hd:A.handled=none
 dp:A.depth+3 * k+5<recursionLimit
 un:A.units+16 * k+200<cLine
theorem bY.mono {j k:Nat} {A:Pm} (r:bY k A) (h:j<=k):bY j A:=⟨r.hd,by have:=r.dp;omega,by have:=r.un;omega⟩
theorem bY.deeper {k:Nat} {A:Pm} (r:bY (k+1) A) (env:Env):bY k (A.deeper env) :=
 ⟨r.hd,by have:=r.dp;show A.depth+1+3 * k+5<_;omega,by have:=r.un;show A.units+3+16 * k+200<_;omega⟩
theorem bY.depth {k:Nat} {A:Pm} (r:bY k A):A.depth<recursionLimit:=by have:=r.dp;omega
theorem bY.units {k:Nat} {A:Pm} (r:bY k A):A.units+64<cLine:=by have:=r.un;omega
section
variable {prog:Pp} {w:Qn} {A:Pm} {E:OE->OH->Prop} {s:OH} {K:O7} {x dx C f:Pf} {mA:Str->Option OE} {name:Str} {v:OE}
end
structure Hh (K:O7) (C:Pf):Prop where
 pg:PySem.W.plainGet K C QO=true
 hd:PySem.W.hasDictIn K C=true
 po:PySem.W.plainOver K C=true
 sa:Vc K (.ref C) "__setattr__"=some (some (.builtin "object.__setattr__"))
noncomputable def uw (K:O7) (C:Pf) (f:Str):Prop:=Vc K (.ref C) f=some none
structure Meth (K:O7) (C:Pf) (m:Str) (f:Pf):Prop where
 at_:Vc K (.ref C) m=some (some (.ref f))
 fn:PySem.W.isFn K (.ref f)=true
 kp:PW K (.ref f)=true
section
variable {A:Pm} {E:OE->OH->Prop}
end
theorem kj {kindOf:Str->Option NameKind} {x:Str}:∀{binds:List (Str × OE)} {m:Str->Option OE},(∀v,(x,v)∉binds)->bindL kindOf binds m x=m x
 | [],_,_=>rfl
 | (n,v)::r,m,h=>by
  unfold bindL;rw [kj fun w hw=>h w (OG _ hw)];split
  ·have:x≠n:=by rintro rfl;exact h v OI
   simp [this]
  ·rfl
theorem km {kindOf:Str->Option NameKind} {x:Str}:∀{binds:List (Str × OE)} {m:Str->Option OE},(∀v,(x,v)∉binds)->bindC kindOf binds m x=m x
 | [],_,_=>rfl
 | (n,v)::r,m,h=>by
  unfold bindC;rw [km fun w hw=>h w (OG _ hw)];split
  ·rfl
  ·have:x≠n:=by rintro rfl;exact h v OI
   simp [this]
theorem kq {kindOf:Str->Option NameKind} {x:Str} {v:OE}:∀{P:List Str} {vs:List OE} {i:Nat} {m:Str->Option OE},P.Nodup->P[i]?=some x->vs[i]?=some v->kindOf x=some .local ->
  bindL kindOf (P.zip vs) m x=some v
 | [],_,_,_,_,h,_,_=>by simp at h
 | _::_,[],_,_,_,_,h,_=>by simp at h
 | p::P,w::vs,0,m,nd,h1,h2,hk=>by
  simp at h1 h2;subst h1;subst h2;show bindL kindOf ((p,w)::P.zip vs) m p=_
  unfold bindL;rw [kj fun v hv=>(Qc.mp nd).1 (Th hv).1,if_pos hk];simp
 | p::P,w::vs,i+1,m,nd,h1,h2,hk=>by
  show bindL kindOf ((p,w)::P.zip vs) m x=_;unfold bindL;exact kq (i:=i) (Qc.mp nd).2 (by simpa using h1) (by simpa using h2) hk
theorem kr {kindOf:Str->Option NameKind} {x:Str} {v:OE}:∀{P:List Str} {vs:List OE} {i:Nat} {m:Str->Option OE},P.Nodup->P[i]?=some x->vs[i]?=some v->kindOf x≠some .local ->
  bindC kindOf (P.zip vs) m x=some v
 | [],_,_,_,_,h,_,_=>by simp at h
 | _::_,[],_,_,_,_,h,_=>by simp at h
 | p::P,w::vs,0,m,nd,h1,h2,hk=>by
  simp at h1 h2;subst h1;subst h2;show bindC kindOf ((p,w)::P.zip vs) m p=_
  unfold bindC;rw [km fun v hv=>(Qc.mp nd).1 (Th hv).1,if_neg hk];simp
 | p::P,w::vs,i+1,m,nd,h1,h2,hk=>by
  show bindC kindOf ((p,w)::P.zip vs) m x=_;unfold bindC;exact kr (i:=i) (Qc.mp nd).2 (by simpa using h1) (by simpa using h2) hk
theorem ny {sc:Scope} {n:Nat} {x:Str} (h:sc.names.lookup x=some .cell):∃c,(cellsFrom n sc.names []).lookup x=some c:=by
 have q:=Sx sc.names n [] (.inl h);exact Qw.mp q
section
variable {X:Cx} {pins:ar} {φ:Fr} {g g1:G} {L L':Live} {s s':OH} {w t:T} {u:OE} {e o:Expr} {es:List Expr} {m ma mb:SE} {pos apos:Pos} {x f:Str} {A:Pm} {E:OE->OH->Prop}
structure zR (K:O7) (fl:List Str) (C:Pf):Prop where
 c:Hh K C
 n:∀f∈fl,uw K C f
noncomputable def jh:Expr->Bool
 | .Call (.Name _ _) [] [] _=>false
 | _=>true
theorem qP {env:Env} {w:Sem OE} (h:jh o=true):attributeBase o x env w=w:=by
 unfold attributeBase;split
 ·cases h
 ·rfl
end
structure Env0 (P:Pp) (w:Qn) (K:O7) (mg:Str->Option OE) (cls:Str->Option Pf) (base:Heap) (s:OH) (g:G) (L:Live):Prop where
 mod:Mod K mg base
 bs:∀b o,base.get? b=some o->s.heap.get? b=some o/\g.H b=none
 bsz:base.objs.size<=s.heap.objs.size
 hok:HOk g.H s.heap
 bare:AllBare s.gens
 rel:Rel g L
 gB:g.B=base
 gm:g.cls=cls
 gw:g.w=w
noncomputable def CE (g:G) (s:OH) (t:T) (L':Live) (u:OE) (s':OH):Prop:=∃g',s'.os=s.os/\AllBare s'.gens/\Un [] g.H g'.H s.heap s'.heap/\HOk g'.H s'.heap/\Le g g'/\Rel g' L'/\RT g' none t u
noncomputable def CR (g:G) (s:OH) (t:T) (L':Live) (r:Result) (s':OH):Prop:=match r with
 | .ok (.ret u)=>CE g s t L' u s'
 | _=>False
noncomputable def iR (P:Pp) (w:Qn) (K:O7) (mg:Str->Option OE) (cls:Str->Option Pf) (base:Heap) (k:Nat) (f:Pf) (m:Fn):Prop :=
 ∀{A:Pm} {s:OH} {g:G} {L L':Live} {us:List OE} {xs:List T} {t:T},bY k A->Env0 P w K mg cls base s g L->bz g xs us->m xs L=.ok t L'->codeAny (model P w) A (.call (.ref f) ⟨us,[]⟩) (CR g s t L') s
section
variable {X:Cx} {pins:ar} {φ:Fr} {g g1:G} {L L':Live} {s s':OH} {w t:T} {u:OE} {e o:Expr} {es:List Expr} {m ma mb:SE} {pos p apos:Pos} {x f:Str} {k:Nat} {fa C:Pf} {F:Fn} {ms:List SE}
theorem Inv.xY (I:Inv X pins φ g L s):Env0 X.prog X.w X.K X.mg X.cls X.base s g L:=⟨I.ok.mod,I.bs,Pq I.ok.bsz I.sz,I.hok,I.bare,I.rel,I.gB,I.gm,I.gw⟩
theorem Inv.after (I:Inv X pins φ g L s) (h:CE g s t L' u s'):EP X pins φ g t L' u s':=by
 obtain⟨g',os,bare,un,hok,l,rel,r⟩:=h;exact⟨g',l,I.call (ch:=[]) l os un hok bare rel (fun b z=>absurd z (by simp)),r⟩
theorem pv (hF:iR X.prog X.w X.K X.mg X.cls X.base k fa F) (hr:bY k X.A):dN X (.ref fa) F:=fun I r h=>by
 refine wpAny_call (codeAny_mono (hF hr I.xY r h) fun r s' hq=>?_);cases r with
 | error e=>exact SF hq
 | ok fl=>cases fl <;> first|exact I.after hq|exact SF hq
theorem aP {env:Env}:∀{es:List Expr},es.all aC=true->(backTo pos (starEach es env)).any (·.1)=false
 | [],_=>rfl
 | e::es,h=>by
  rw [PK,ON] at h;rw [ah h.1];show(false || (backTo pos (starEach es env)).any (·.1))=false
  rw [aP h.2];rfl
theorem xZ (hF:dN X (.ref fa) F) (hg:Gl X x) (hm:X.mg x=some (.ref fa)) (hk:PW X.K (.ref fa)=true) (pz:(x == ("__debug__":Str))=false):PE X (.Call (.Name x p) [] [] pos) (aq F []):=fun I h =>
 wpAny_Call_Name_kw (eK I hg hm (PySem.W.callWith_K0 I.DD hk (hF (us:=[]) I .nil h)) pz)
theorem ux (hF:dN X (.ref fa) F) (hg:Gl X x) (hm:X.mg x=some (.ref fa)) (hk:PW X.K (.ref fa)=true) (ha:PA X (e::es) (d5 ms)) (hs:(e::es).all aC=true) (pz:(x == ("__debug__":Str))=false):PE X (.Call (.Name x p) (e::es) [] pos) (aq F ms):=fun I h=>by
 obtain⟨ts,L1,e1,h⟩:=R.of h;rw [PK,ON] at hs;exact wpAny_Call_Name_kw (eK I hg hm (Sb (h₀:=X.base) I.ok.mod.zP hk (a7 (ha pos I e1) fun us s1 ⟨g1,l1,I1,r1⟩=>⟨I1.DD,a7 (hF I1 r1 h) fun _ _ z=>z.le l1⟩) (ah hs.1) (aP hs.2)) pz)
theorem nz {env:Env}:∀{es:List Expr},es.all aC=true->(backTo pos (starEach es env)).all (fun x=>!x.1)=true
 | [],_=>rfl
 | e::es,h=>by
  rw [PK,ON] at h;rw [ah h.1];show(true && (backTo pos (starEach es env)).all (fun x=>!x.1))=true
  rw [nz h.2];rfl
theorem uy {env:Env} (h:es.all aC=true) (hl:es.length<30):((backTo pos (starEach es env)).all (fun x=>!x.1) && (backToKw pos (keywordEach [] env)).all (fun x=>x.1.isSome)
   && decide (es.length+([]:List Keyword).length+(if ([]:List Keyword).isEmpty then 0 else 1)<30))=true:=by
 rw [nz h];show(true && true && decide (es.length+0+0<30))=true
 rw [decide_eq_true (show es.length+0+0<30 by omega)];rfl
end
structure eO (N ps:List Str) (sc:Scope):Prop where
 kind:sc.kind=.function
 co:sc.isCoroutine=false
 gen:sc.isGenerator=false
 nd:N.Nodup
 pre:N.take ps.length=ps
 par:∀x∈ps,sc.names.lookup x=some .local\/sc.names.lookup x=some .cell
 ji:∀y∈sc.names,y.2≠.free
noncomputable def jX (P:Pp) (w:Qn) (K:O7) (mg:Str->Option OE) (cls:Str->Option Pf) (base:Heap) (N:List Str) (qual:Str) (scope:Scope) (f:Pf) (cd:OE) (A:Pm) (s:OH) (H:Hp):Cx where
 prog:=P
 w:=w
 K:=K
 mg:=mg
 cls:=cls
 base:=base
 A:=A.deeper (envOfC qual scope s.heap.objs.size f cd)
 N:=N
 s₀:=s
 H₀:=H
 env:=envOfC qual scope s.heap.objs.size f cd
 ex:=[]
 fn:=fun _=>true
section
variable {P:Pp} {w:Qn} {K:O7} {mg:Str->Option OE} {cls:Str->Option Pf} {base:Heap} {N ps:List Str} {qual:Str} {scope:Scope} {f:Pf} {cd:OE} {A:Pm} {s s1:OH} {g:G} {L:Live}
theorem ku {us:List OE} {xs:List T} (S:eO N ps scope) (hd:A.handled=none) (e0:Env0 P w K mg cls base s g L) (hl:xs.length=ps.length) (r:bz g xs us)
  (x:InCallC s s.heap.objs.size (bindL (envOfC qual scope s.heap.objs.size f cd).kindOf (ps.zip us) fun _=>none) (cellsFrom (s.heap.objs.size+1) scope.names []) (bindC (envOfC qual scope s.heap.objs.size f cd).kindOf (ps.zip us) fun _=>none) s1) :
  Inv (jX P w K mg cls base N qual scope f cd A s g.H) [] (xs.map some++Pd (N.length - ps.length) none) g L s1:=by
 have hpl:ps.length<=N.length:=by have:=congrArg QB S.pre;rw [Qd] at this;omega
 obtain⟨h1,tk,rfl,hk⟩:=x.done;refine⟨⟨e0.mod,S.kind,rfl,rfl,OR _,fun y z c h1 h2=>?_,fun y hy=>?_,fun y c _ h=>?_,hd,fun b z=>absurd z (by simp [jX]),e0.bs,e0.bsz,fun b _ _=>by simp [jX]⟩,
  rfl,e0.bare,Un.kept hk,⟨_,x.toInCall.ns,fun i y v h1 h2 h3=>?_⟩,fun y c h=>⟨_,x.cell y c h⟩,e0.hok.fresh (OR _),fun y c h=>?_,fun p hp=>(by simp at hp),fun a b o e=>hk a o (e0.hok a b o e),?_,e0.rel,e0.gB,e0.gm,e0.gw⟩
 ·exact name_of_addr x.apart (Pt h1) (Pt h2)
 ·have hy:scope.names.lookup y=some .cell\/scope.names.lookup y=some .free:=hy
  rcases hy with hy|hy
  ·exact ny hy
  ·exact absurd rfl (S.ji _ (Pt hy))
 ·exact UR (x.above y c (Pt h))
 ·have hi:i<xs.length:=by
   by_cases hi:i<xs.length
   ·exact hi
   ·rw [Tu (by simpa using hi),List.getElem?_replicate] at h2
    split at h2 <;> cases h2
  have ha:xs[i]?=some v:=by
   rw [TV (by simpa using hi),Pb] at h2;cases e:xs[i]? with
   | none=>rw [e] at h2;cases h2
   | some a=>rw [e] at h2;cases h2;rfl
  obtain⟨u,hu,rv⟩:=sF r ha;have hp:ps[i]?=some y:=by
   rw [<- S.pre,T4 (by omega)];exact h1
  have Kr:ps.Nodup:=by rw [<- S.pre];exact S.nd.sublist (List.take_sublist _ _)
  refine⟨u,rv,?_⟩;rcases S.par y (PH hp) with k|k
  ·exact .inl ⟨k,kq Kr hp hu k⟩
  ·obtain⟨c,e⟩:=ny (n:=s.heap.objs.size+1) k
   refine .inr ⟨.inl k,c,e,?_⟩;have q:=x.cell y c e
   rw [kr Kr hp hu (by show scope.names.lookup y≠_;rw [k];decide)] at q;exact q
 ·exact e0.hok.fresh (UR (x.above y c (Pt h)))
 ·show _=N.length
  rw [OL,Lm9,List.length_replicate];omega
theorem qQ {g1:G} {L1 Lo:Live} {s':OH} {t t':T} {u:OE} (e0:Env0 P w K mg cls base s g L) (os:s'.os=s.os) (bare:AllBare s'.gens) (un:Un [] g.H g1.H s.heap s'.heap) (hok:HOk g1.H s'.heap) (l:Le g g1) (rel:Rel g1 L1) (r:RT g1 none t u) (e:fin L t L1=.ok t' Lo):CE g s t' Lo u s':=by
 obtain⟨g2,l2,r2,h2,a,b,c⟩:=Bi l e0.rel rel r e;exact⟨g2,os,bare,⟨un.keep,fun x o q n z=>b x (un.free x o q n z),fun x o q=>c x o (un.eY x o q)⟩,fun x y o q=>let ⟨_,z⟩:=a x y o q;hok x _ o z,l2,r2,h2⟩
theorem El {k:Nat} {name:Str} {params:Arguments} {body:List Stmt} {dV kV doc pm aU ct oc:OE} {an od:Option Pf} {kz:Array (Option OE)} {mb:SS} (lk:K.lookup f=some ⟨oc,od,.func (P5 name qual params body scope dV kV doc pm an aU ct),kz⟩) (hcd:Rm K aU qual=true) (S:eO N ps scope)
  (gQ:∀us:List OE,us.length=ps.length->bindArgs (P5 name qual params body scope dV kV doc pm an aU ct) ⟨us,[]⟩=pure (ps.zip us))
  (d8:∀(A:Pm) (s:OH) (H:Hp),bY k (A.deeper (envOfC qual scope s.heap.objs.size f aU))->xw (jX P w K mg cls base N qual scope f aU A s H) body mb) :
  iR P w K mg cls base (k+1) f (run ps.length N.length mb):=fun {A s g L L' us xs t} hr e0 r gR=>by
 unfold run at gR;split at gR
 ·rename_i hl
  have HN:us.length=ps.length:=by rw [<- OX r];exact hl
  have KX:K.In s.heap:=e0.mod.zP.keeps fun b o e=>(e0.bs b o e).1
  have lim:s.heap.NoLimit:=e0.mod.nolimit.keeps fun b o e=>(e0.bs b o e).1
  have hkind:∀y∈ps.zip us,scope.names.lookup y.1=some .local\/(scope.names.lookup y.1=some .cell/\((cellsFrom (s.heap.objs.size+1) scope.names []).lookup y.1).isSome=true):=fun⟨n,v⟩ hy=>by
   rcases S.par n (Th hy).1 with q|q
   ·exact .inl q
   ·exact .inr ⟨q,Sx _ _ _ (.inl q)⟩
  refine codeAny_call_function hr.depth (KX _ _ lk) rfl S.co S.gen rfl (Vn KX hcd) (BindsTo.of_eq (gQ us HN) _ _ _ _ ?_);refine wpAny_newFunctionEnv_cells S.kind hkind fun env he s1 x=>?_
  subst he;refine⟨lim.keeps x.toInCall.keep,codeAny_func ?_⟩;have I:=ku (A:=A) (cd:=aU) S hr.hd e0 hl r x
  have nb:mb (xs.map some++Pd (N.length - ps.length) none) L≠.bad:=fun z=>by rw [z] at gR;cases gR
  refine wpAny_mono (d8 A s g.H (hr.deeper _) I nb) (fun fl s' ⟨g',l,hs⟩=>?_) fun e s' hs=>hs.elim
  cases eb:mb (xs.map some++Pd (N.length - ps.length) none) L with
  | nx φ' L1 =>
   rw [eb] at hs gR;cases fl <;> first|exact hs.elim|exact qQ e0 hs.os hs.bare hs.base hs.hok l hs.rel .bK gR
  | rt t0 L1 =>
   rw [eb] at hs gR;cases fl <;> first|exact hs.elim|skip
   obtain⟨⟨φ',J⟩,rt⟩:=hs;exact qQ e0 J.os J.bare J.base J.hok l J.rel rt gR
  | _=>rw [eb] at gR;cases gR
 ·cases gR
end
section
variable {X:Cx} {pins:ar} {φ:Fr} {g:G} {L:Live} {s:OH}
theorem str_beq {a b:Cs}:((⟨a.toArray⟩:Str) == ⟨b.toArray⟩)=(a == b):=by
 rw [QC,beq_iff_eq,beq_iff_eq];constructor
 ·intro h
  have:=congrArg (fun x:Str=>x.cps.toList) h;simpa using this
 ·rintro rfl;rfl
theorem d9 {f:T->T->Bool}:∀(a b:List T),((Pa (min a.length b.length)).all (fun i=>f (a.getD i .bK) (b.getD i .bK)) && a.length == b.length)=iO f a b
 | [],[]=>rfl
 | [],b::q=>by simp [iO]
 | a::r,[]=>by simp [iO]
 | a::r,b::q=>by
  rw [iO,<- d9 r q];have e:min (a::r).length (b::q).length=min r.length q.length+1:=by simp only [OP];omega
  rw [e,UD,PK,List.all_map];have e2:((a::r).length == (b::q).length)=(r.length == q.length):=by simp
  rw [e2,Bool.and_assoc];rfl
theorem lR {n:Nat} {xs:List T} (h:xs.all (dat n)=true) {i:Nat} (hi:i<xs.length):dat n (xs.getD i .bK)=true:=by
 rw [Gd9,Ge9 hi];exact OD.mp h _ (OV hi)
theorem getD_at {xs:List T} {i:Nat} (hi:i<xs.length):xs[i]?=some (xs.getD i .bK):=by
 rw [Gd9,Ge9 hi];rfl
theorem cQ {f:T->T->Bool}:∀{xs:List T},(∀x∈xs,f x x=true)->iO f xs xs=true
 | [],_=>rfl
 | x::xs,h=>by rw [iO,h x OI,cQ fun y hy=>h y (OG _ hy)];rfl
theorem Bj {a:T} (h:dat 0 a=true):False:=by cases a <;> cases h
theorem dD:∀(n:Nat) {a:T},dat n a=true->mX n a a=true
 | 0,a,h=>(Bj h).elim
 | n+1,a,h=>by
  cases a with
  | bK=>rfl
  | bl k=>exact beq_self_eq_true k
  | int i=>exact beq_self_eq_true i
  | str z=>exact beq_self_eq_true z
  | tup xs=>exact cQ fun x hx=>dD n (OD.mp h x hx)
  | lst xs=>exact cQ fun x hx=>dD n (OD.mp h x hx)
  | _=>cases h
noncomputable def It (g:G) (n:Nat) (xs:List T) (its:Array OE):Prop:=xs.all (dat n)=true/\xs.length=its.size/\∀(i:Nat) x v,xs[i]?=some x->its[i]?=some v->RT g none x v
theorem Inv.dv (I:Inv X pins φ g L s) {n:Nat} {p:Option (Pf × Pf)} {P:T->OE->Prop} (c1:P .bK .none) (c2:∀b,P (.bl b) (.bool b)) (c3:∀i t,P (.int i) (.int i t)) (c4:∀z t,P (.str z) (.str ⟨z.toArray⟩ t))
  (c5:∀xs a its,s.heap.IsTuple a its->It g n xs its->P (.tup xs) (.ref a)) (c6:∀xs a its,s.heap.IsList a its->It g n xs its->P (.lst xs) (.ref a)) {a:T} {u:OE} (h:dat (n+1) a=true) (r:RT g p a u):P a u:=by
 cases r with
 | bK=>exact c1
 | bl b=>exact c2 b
 | int i t=>exact c3 i t
 | str z t _=>exact c4 z t
 | tup hk hc hd _ hl hi=>exact c5 _ _ _ ⟨_,I.kn hk,hc.1,_,hd⟩ ⟨h,hl,hi⟩
 | lst _ hk _ hl hi=>exact c6 _ _ _ (aa (I.kn hk)) ⟨h,hl,hi⟩
 | _=>cases h
noncomputable def tO:OE->Option T
 | .none=>some .bK
 | .bool b=>some (.bl b)
 | .int i _=>some (.int i)
 | .str z _=>some (.str z.cps.toList)
 | _=>none
noncomputable def Sq (s:OH) (k:Bool) (a:Pf) (its:Array OE):Prop:=∃o,s.heap.get? a=some o/\o.cls=.type (if k=true then "tuple" else "list")/\∃n,o.data=.seq its n
theorem Sq.eq {k j:Bool} {a:Pf} {x y:Array OE} (h:Sq s k a x) (h':Sq s j a y):k=j/\x=y:=by
 obtain⟨o,e,c,m,d⟩:=h;obtain⟨_,e',c',m',d'⟩:=h';cases Qq (e.symm.trans e');refine⟨?_,(Data.seq.inj (d.symm.trans d')).1⟩;have z:=c.symm.trans c'
 clear c c'
 revert k j
 decide
theorem Inv.uniq (I:Inv X pins φ g L s):∀(n:Nat) {p q:Option (Pf × Pf)} {a b:T} {u:OE},dat n a=true->dat n b=true->RT g p a u->RT g q b u->a=b
 | 0,_,_,a,_,_,h,_,_,_=>(Bj h).elim
 | n+1,_,_,_,_,_,ha,hb,ra,rb=>by
  have key:∀{p a u},dat (n+1) a=true->RT g p a u->tO u=some a\/∃k d its xs,u=.ref d/\Sq s k d its/\It g n xs its/\a=if k=true then .tup xs else .lst xs:=fun h r =>
   I.dv (P:=fun a u=>tO u=some a\/∃k d its xs,u=.ref d/\Sq s k d its/\It g n xs its/\a=if k=true then .tup xs else .lst xs) (.inl rfl) (fun _=>.inl rfl) (fun _ _=>.inl rfl) (fun _ _=>.inl rfl)
    (fun xs a its h j=>.inr ⟨true,a,its,xs,rfl,h,j,rfl⟩) (fun xs a its h j=>.inr ⟨false,a,its,xs,rfl,h,j,rfl⟩) h r
  rcases key ha ra with h|⟨k,d,its,xs,rfl,hk,i,rfl⟩
  ·rcases key hb rb with h'|⟨_,_,_,_,rfl,_⟩
   ·exact Qq (h.symm.trans h')
   ·cases h
  ·rcases key hb rb with h'|⟨j,_,LD,ys,z,hj,i',rfl⟩
   ·cases h'
   ·cases Value.ref.inj z
    obtain⟨rfl,rfl⟩:=hk.eq hj;rw [show xs=ys from Qe (i.2.1.trans i'.2.1.symm) fun m hi hj=>I.uniq n (OD.mp i.1 _ (OV hi)) (OD.mp i'.1 _ (OV hj)) (i.2.2 m _ _ (Ge9 hi) (OO (i.2.1 ▸ hi))) (i'.2.2 m _ _ (Ge9 hj) (OO (i.2.1 ▸ hi)))]
theorem both {A:Pm} {a b:Pf} {k:Bool} (h:SeqAt.RcAt A s (.ref a) (.ref b) k) (he:a=b->k=true):SeqAt.RcAt A s (.ref a) (.ref b) k/\QG A s (.ref a) (.ref b) k:=⟨h,by
 by_cases e:a=b
 ·subst e;rw [he rfl];exact SeqAt.EqAt.same _
 ·exact SeqAt.EqAt.of_refs e h⟩
theorem It.eq (I:Inv X pins φ g L s) {n:Nat} {xs ys:List T} {its:Array OE} (i:It g n xs its) (j:It g n ys its):iO (mX n) xs ys=true:=by
 rw [show ys=xs from Qe (j.2.1.trans i.2.1.symm) fun m hj hi=>I.uniq n (OD.mp j.1 _ (OV hj)) (OD.mp i.1 _ (OV hi)) (j.2.2 m _ _ (Ge9 hj) (OO (i.2.1 ▸ hi))) (i.2.2 m _ _ (Ge9 hi) (OO (i.2.1 ▸ hi)))];exact cQ fun x hx=>dD n (OD.mp i.1 x hx)
abbrev Rq (A:Pm) (s:OH) (n:Nat) (a:T) (u:OE) (b:T) (v:OE):Prop:=SeqAt.RcAt A s u v (mX n a b)/\QG A s u v (mX n a b)
open SeqAt in
theorem Inv.rc (I:Inv X pins φ g L s):∀(n:Nat) {A:Pm} {p q:Option (Pf × Pf)} {a b:T} {u v:OE},dat n a=true->dat n b=true->A.units+n<cLine->RT g p a u->RT g q b v->Rq A s n a u b v
 | 0,_,_,_,a,_,_,_,h,_,_,_,_=>(Bj h).elim
 | n+1,A,_,_,a,b,u,v,ha,hb,hn,ra,rb=>by
  have hu:A.units<cLine:=by omega
  have it:∀{xs ys:List T} {x y:Array OE},It g n xs x->It g n ys y->∀j (h1:j<x.size) (h2:j<y.size),EqAt A.in1 s x[j] y[j] (mX n (xs.getD j .bK) (ys.getD j .bK)):=fun i k j h1 h2 =>
   (I.rc n (lR i.1 (i.2.1 ▸ h1)) (lR k.1 (k.2.1 ▸ h2)) (by show A.units+1+n<cLine;omega) (i.2.2 j _ _ (getD_at (i.2.1 ▸ h1)) (OO h1)) (k.2.2 j _ _ (getD_at (k.2.1 ▸ h2)) (OO h2))).2
  refine I.dv (P:=fun a u=>Rq A s (n+1) a u b v) ?_ ?_ ?_ ?_ ?_ ?_ ha ra
  ·exact I.dv (P:=Rq A s (n+1) .bK .none) ⟨.none_none,.same _⟩ (fun _=>⟨.none_bool _,.none_bool _⟩) (fun _ _=>⟨.none_int _ _,.none_int _ _⟩) (fun _ _=>⟨.none_str _ _,.none_str _ _⟩) (fun _ _ _ h _=>⟨.none_tuple h hu,.none_tuple h hu⟩) (fun _ _ _ h _=>⟨.none_list h hu,.none_list h hu⟩) hb rb
  ·exact fun _=>I.dv (P:=Rq A s (n+1) (.bl _) (.bool _)) ⟨.bool_none _,.bool_none _⟩ (fun _=>⟨.bool_bool _ _,.bool_bool _ _⟩) (fun _ _=>⟨.bool_int _ _ _,.bool_int _ _ _⟩) (fun _ _=>⟨.bool_str _ _ _,.bool_str _ _ _⟩) (fun _ _ _ h _=>⟨.bool_tuple _ h hu,.bool_tuple _ h hu⟩) (fun _ _ _ h _=>⟨.bool_list _ h hu,.bool_list _ h hu⟩) hb rb
  ·exact fun _ _=>I.dv (P:=Rq A s (n+1) (.int _) (.int _ _)) ⟨.int_none _ _,.int_none _ _⟩ (fun _=>⟨.int_bool _ _ _,.int_bool _ _ _⟩) (fun _ _=>⟨.int_int _ _ _ _,.int_int _ _ _ _⟩) (fun _ _=>⟨.int_str _ _ _ _,.int_str _ _ _ _⟩) (fun _ _ _ h _=>⟨.int_tuple _ _ h hu,.int_tuple _ _ h hu⟩) (fun _ _ _ h _=>⟨.int_list _ _ h hu,.int_list _ _ h hu⟩) hb rb
  ·exact fun z _=>I.dv (P:=Rq A s (n+1) (.str z) (.str ⟨z.toArray⟩ _)) ⟨.str_none _ _,.str_none _ _⟩ (fun _=>⟨.str_bool _ _ _,.str_bool _ _ _⟩) (fun _ _=>⟨.str_int _ _ _ _,.str_int _ _ _ _⟩) (fun z2 _=>by
    show RcAt A s _ _ (z == z2)/\EqAt A s _ _ (z == z2);rw [<- str_beq];exact⟨.str_str _ _ _ _,.str_str _ _ _ _⟩) (fun _ _ _ h _=>⟨.str_tuple _ _ h hu,.str_tuple _ _ h hu⟩) (fun _ _ _ h _=>⟨.str_list _ _ h hu,.str_list _ _ h hu⟩) hb rb
  ·exact fun xs d x T1 i=>I.dv (P:=Rq A s (n+1) (.tup xs) (.ref d)) ⟨.tuple_none T1 hu,.tuple_none T1 hu⟩ (fun _=>⟨.tuple_bool _ T1 hu,.tuple_bool _ T1 hu⟩) (fun _ _=>⟨.tuple_int _ _ T1 hu,.tuple_int _ _ T1 hu⟩) (fun _ _=>⟨.tuple_str _ _ T1 hu,.tuple_str _ _ T1 hu⟩) (fun ys b y T2 k=>by
    have:=RcAt.tuples T1 T2 hu (it i k);rw [<- i.2.1,<- k.2.1,d9] at this;refine both this fun e=>?_
    subst e;cases (Sq.eq (k:=true) (j:=true) T1 T2).2;exact i.eq I k) (fun _ _ _ h _=>⟨.tuple_list T1 h hu,.tuple_list T1 h hu⟩) hb rb
  ·exact fun xs d x T1 i=>I.dv (P:=Rq A s (n+1) (.lst xs) (.ref d)) ⟨.list_none T1 hu,.list_none T1 hu⟩ (fun _=>⟨.list_bool _ T1 hu,.list_bool _ T1 hu⟩) (fun _ _=>⟨.list_int _ _ T1 hu,.list_int _ _ T1 hu⟩) (fun _ _=>⟨.list_str _ _ T1 hu,.list_str _ _ T1 hu⟩) (fun _ _ _ h _=>⟨.list_tuple T1 h hu,.list_tuple T1 h hu⟩) (fun ys b y T2 k=>by
    refine both ?_ fun e=>?_
    ·show RcAt A s _ _ (iO (mX n) xs ys)
     rw [<- d9,i.2.1,k.2.1];by_cases hs:x.size=y.size
     ·have:=RcAt.lists T1 T2 hs hu (it i k)
      rw [<- hs];simpa using this
     ·rw [show(x.size == y.size)=false by simpa using hs,SR];exact RcAt.lists_lengths T1 T2 (by simpa using hs) hu
    ·subst e
     cases (Sq.eq (k:=false) (j:=false) T1 T2).2;exact i.eq I k) hb rb
end
section
variable {X:Cx} {pins:ar} {φ:Fr} {g:G} {L:Live} {s:OH} {xs ys:List T} {us vs:List OE}
theorem bz.app (h:bz g xs us) (h2:bz g ys vs):bz g (xs++ys) (us++vs):=by
 induction h with
 | nil=>exact h2
 | cons a _ ih=>exact .cons a ih
theorem uz {w:T} {t':Nat} {h':Heap} {n:Nat} (I:Inv X pins φ g L s) (r:bz g xs us) (hz:xs.length<=O6) (k:∀b u,s.heap.get? b=some u->h'.get? b=some u) {a:Pf} (ha:s.heap.objs.size<=a) (new:h'.get? a=some { cls:=.type "tuple",data:=.seq us.toArray n }) :
  EP X pins φ g (.tup xs) L (.ref a) { s with heap:=h',toks:=t' } :=
 have f:=I.hok.fresh ha
 ⟨_,Le.lay f,I.laid k ha new,r.tup (Le.lay f) (.inl ak) ⟨rfl,rfl⟩ rfl hz⟩
theorem kC (c:Nat):∀(k:Nat) (a:Array Nat),(Pd k (#[c]:Array Nat)).foldl (fun x1 x2=>x1++x2) a=a++(Pd k c).toArray
 | 0,a=>by simp
 | k+1,a=>by
  rw [Vf,Se,kC c k,Vf];apply Vt;simp
theorem Bl {fz:Bool} {op:Operator} {x y w:T} {L':Live} (h:aw fz op x y L=.ok w L'):(∃i j,vw L x=.int i/\vw L y=.int j/\oI op i j L=.ok w L')\/(∃a b,vw L x=.str a/\vw L y=.str b/\op=.Add/\a.length+b.length<=lim/\w=.str (a++b)/\L'=L)\/(∃ch j,vw L x=.str [ch]/\vw L y=.int j/\op=.Mult/\t9 j/\w=.str (Pd j.toNat ch)/\L'=L)\/(∃a b,vw L x=.lst a/\vw L y=.lst b/\op=.Add/\eE fz (a++b) L=.ok w L')\/∃a b,vw L x=.tup a/\vw L y=.tup b/\op=.Add/\a.length+b.length<=lim/\w=.tup (a++b)/\L'=L:=by
 unfold aw at h;generalize vw L x=p at h ⊢;generalize vw L y=q at h ⊢;split at h
 ·split at h
  ·exact .inl ⟨_,_,rfl,rfl,h⟩
  ·cases h
 ·unfold oS at h
  split at h
  ·split at h
   ·obtain⟨c,h⟩:=ao h;cases h;exact .inr (.inl ⟨_,_,rfl,rfl,rfl,c,rfl,rfl⟩)
   ·cases h
  ·split at h
   ·split at h
    ·obtain⟨c,h⟩:=ao h;cases h;exact .inr (.inr (.inl ⟨_,_,rfl,rfl,rfl,c,rfl,rfl⟩))
    ·cases h
   ·cases h
  ·cases h
 ·split at h
  ·split at h
   ·exact .inr (.inr (.inr (.inl ⟨_,_,rfl,rfl,rfl,h⟩)))
   ·cases h
  ·cases h
 ·split at h
  ·split at h
   ·obtain⟨c,h⟩:=ao h;cases h;exact .inr (.inr (.inr (.inr ⟨_,_,rfl,rfl,rfl,c,rfl,rfl⟩)))
   ·cases h
  ·cases h
 ·cases h
theorem Bm {op:Operator} {i j:Int} {t t':Nat} {w:T} {L':Live} (I:Inv X pins φ g L s) (h:oI op i j L=.ok w L'):O3 (model X.prog X.w) X.A (binaryOp op (.int i t) (.int j t')) (EP X pins φ g w L') F0 s:=by
 cases op with
 | Add =>
  cases h;exact add_int ((I.tok _).ep (.int _ _))
 | Sub =>
  cases h;exact sub_int ((I.tok _).ep (.int _ _))
 | Mult =>
  obtain⟨hc,h⟩:=ao h;cases h;refine mul_int ((I.tok _).ep (.int _ _)) ?_;rcases hc with⟨h1,h2⟩|⟨h1,h2⟩
  ·exact .of_left (intBits_le_64 h1 h2)
  ·exact .of_right (intBits_le_64 h1 h2)
 | FloorDiv =>
  obtain⟨hc,h⟩:=ao h;cases h;unfold t8 at hc;exact floordiv_int (by omega) (by rw [Int.fdiv_eq_ediv_of_nonneg i (by omega)];exact(I.tok _).ep (.int _ _)) (.inl (PyProof.noPylong_small (by omega)))
 | Mod =>
  obtain⟨hc,h⟩:=ao h;cases h;exact mod_int' (by omega) (by rw [Int.fmod_eq_emod_of_nonneg i (by omega)];exact(I.tok _).ep (.int _ _))
 | Pow =>
  obtain⟨hc,h⟩:=ao h;cases h;exact pow_int_small hc.1 hc.2.1 hc.2.2 ((I.tok _).ep (.int _ _))
 | _ =>
  cases h
theorem Bn {c:Nat} {n:Int} {t t':Nat} (I:Inv X pins φ g L s) (hc:t9 n):O3 (model X.prog X.w) X.A (binaryOp .Mult (.str ⟨[c].toArray⟩ t) (.int n t')) (EP X pins φ g (.str (Pd n.toNat c)) L) F0 s:=by
 unfold t9 at hc;have hl:(⟨[c].toArray⟩:Str).length=1:=rfl
 refine PySem.P.mul_str ?_ (fun a b=>?_) (fun a b=>?_) ?_
 ·have z1:¬ n < -(2 ^ 63:Int):=by omega
  have z2:¬ n≥2 ^ 63:=by omega
  rw [decide_eq_false z1,decide_eq_false z2];rfl
 ·rw [hl]
  have:(1:Int)<=(2 ^ 63 - 1) / n:=by
   rw [Int.le_ediv_iff_mul_le (by omega)];omega
  omega
 ·rw [hl]
  have e:(2:Nat) ^ 24=16777216:=by decide
  unfold Builtin.Str.tooLong O6;exact decide_eq_false (by omega)
 ·by_cases a:n<1
  ·rw [if_pos a]
   refine⟨by decide,(I.tok _).ep ?_⟩;have e:n.toNat=0:=by omega
   rw [e];exact .str [] _ (by decide)
  ·rw [if_neg a]
   by_cases b:(n == 1 || (⟨[c].toArray⟩:Str).length == 0)=true
   ·rw [if_pos b]
    have e1:n=1:=by rw [hl] at b;simpa using b
    subst e1;exact I.ep (.str [c] _ (by show 1<=O6;decide))
   ·rw [if_neg b]
    have e:(⟨(Pd n.toNat (⟨[c].toArray⟩:Str).cps).foldl (· ++ ·) #[]⟩:Str)=⟨(Pd n.toNat c).toArray⟩:=by
     show(⟨(Pd n.toNat (#[c]:Array Nat)).foldl (fun x1 x2=>x1++x2) #[]⟩:Str)=_;rw [kC];simp
    rw [e];have z:(Pd n.toNat c).length<=O6:=by rw [P9];simp;omega
    exact⟨by show(Pd n.toNat c).toArray.size<=_;simpa using z,(I.tok _).ep (.str _ _ z)⟩
theorem Bo {p q:Option (Pf × Pf)} {a b:List T} {u v:OE} (I:Inv X pins φ g L s) (rx:RT g p (.tup a) u) (ry:RT g q (.tup b) v) (hz:a.length+b.length<=O6):O3 (model X.prog X.w) X.A (binaryOp .Add u v) (EP X pins φ g (.tup (a++b)) L) F0 s:=by
 have Ks:RT g none (.tup a) u:=by cases rx;exact .tup ‹_› ‹_› ‹_› ‹_› ‹_› ‹_›
 have Kt:RT g none (.tup b) v:=by cases ry;exact .tup ‹_› ‹_› ‹_› ‹_› ‹_› ‹_›
 obtain⟨x,i1,rfl,⟨⟨cls,dd,data,sl⟩,ho,hc,n,hd⟩,r1,_⟩:=I.tup Ks;obtain⟨y,i2,rfl,⟨⟨HO,Bp,data2,sJ⟩,sL,En,n2,hd2⟩,r2,_⟩:=I.tup Kt;simp only at hc hd En hd2;subst hc hd En hd2;have l1:a.length=i1.size:=by simpa using OX r1
 have l2:b.length=i2.size:=by simpa using OX r2
 by_cases hv:i1.isEmpty=true
 ·refine concat_meets ⟨_,ho,rfl⟩ ⟨_,sL,rfl⟩ noFill_tuple_add seq_tuple_add Sy Sf (R7 _ _) (tuple_addW0 x y i1 i2 n n2 dd Bp sl sJ hv) ⟨ho,sL,I.ep ?_⟩
  have:a=[]:=Ry.mp (by simp at hv;rw [l1,hv];rfl);rw [this];exact Kt
 ·by_cases hw:i2.isEmpty=true
  ·refine concat_meets ⟨_,ho,rfl⟩ ⟨_,sL,rfl⟩ noFill_tuple_add seq_tuple_add Sy Sf (R7 _ _) (tuple_addW1 x y i1 i2 n n2 dd Bp sl sJ hv hw) ⟨ho,sL,I.ep ?_⟩
   have:b=[]:=Ry.mp (by simp at hw;rw [l2,hw];rfl);rw [this,QD];exact Ks
  ·refine concat_meets ⟨_,ho,rfl⟩ ⟨_,sL,rfl⟩ noFill_tuple_add seq_tuple_add Sy Sf (R7 _ _) (tuple_addW2 x y i1 i2 n n2 dd Bp sl sJ hv hw (by omega)) ⟨ho,sL,?_⟩
   have ea:i1++i2=(i1.toList++i2.toList).toArray:=by simp
   rw [ea];exact⟨_,Le.lay I.fresh,I.laid (t':=s.toks) (fun b u e=>OJ _ e) (OR _) (OM _ rfl),(r1.app r2).tup (Le.lay I.fresh) (.inl ak) ⟨rfl,rfl⟩ rfl (by rw [OL];exact hz)⟩
theorem Bq {fz:Bool} {op:Operator}:xx X (binaryOp op) (aw fz op):=fun {pins φ g L s x y w L' u v} I rx ry h=>by
 obtain⟨p,vx⟩:=I.view rx;obtain⟨q,vy⟩:=I.view ry;rcases Bl h with⟨i,j,e,e',h⟩|⟨a,b,e,e',rfl,hc,rfl,rfl⟩|⟨c,n,e,e',rfl,hc,rfl,rfl⟩|⟨_,_,e,e',rfl,hm⟩|⟨a,b,e,e',rfl,hc,rfl,rfl⟩ <;> rw [e] at vx <;> rw [e'] at vy
 ·obtain⟨_,rfl⟩:=vx.iI;obtain⟨_,rfl⟩:=vy.iI;exact Bm I h
 ·obtain⟨_,rfl⟩:=vx.sI;obtain⟨_,rfl⟩:=vy.sI
  have e:(⟨a.toArray⟩:Str)++(⟨b.toArray⟩:Str)=⟨(a++b).toArray⟩:=by
   show(⟨a.toArray++b.toArray⟩:Str)=_;simp
  refine add_str (fun t' tk=>(I.tok _).ep ?_) (by show a.toArray.size+b.toArray.size<=_;simpa using (show a.length+b.length<=O6 from hc));rw [e];exact .str _ _ (by simpa using (show a.length+b.length<=O6 from hc))
 ·obtain⟨_,rfl⟩:=vx.sI;obtain⟨_,rfl⟩:=vy.iI;exact Bn I hc
 ·obtain⟨a,i1,n1,rfl,e1,r1,z1⟩:=I.lst vx
  obtain⟨b,i2,n2,rfl,e2,r2,z2⟩:=I.lst vy;have hz:=qJ hm
  have l1:=OX r1;have l2:=OX r2
  refine PySem.P.add_list e1 e2 ?_ (by simp at hz l1 l2;omega);have ea:i1++i2=(i1.toList++i2.toList).toArray:=by simp
  rw [ea];exact jd (t':=s.toks) I (r1.app r2) hm (fun b u e=>OJ _ e) (OM _ rfl)
 ·exact Bo I vx vy hc
theorem Br {x y:T} {k:Bool} {L':Live} (h:D5 x y L=.ok k L'):dat 8 (vw L x)=true/\dat 8 (vw L y)=true/\k=eqT (vw L x) (vw L y)/\L'=L:=by
 obtain⟨⟨a,b⟩,h⟩:=ao h;cases h;exact⟨a,b,rfl,rfl⟩
theorem pA {A:Pm} {x:T} {v:OE} (I:Inv X pins φ g L s) (hu:A.units+8<cLine) (hx:dat 8 x=true) (rx:RT g none x v) (hy:ys.all (dat 8)=true) (r:bz g ys us):∃e:OE->Bool,(∀w∈us,QG A s w v (e w))/\(us.any e=ys.any fun y=>eqT y x)/\∀(i:Nat) y w,ys[i]?=some y->us[i]?=some w->e w=eqT y x:=by
 classical
 have uq:∀(i j:Nat) y z w,ys[i]?=some y->us[i]?=some w->ys[j]?=some z->us[j]?=some w->y=z:=fun i j y z w h1 h2 h3 h4 =>
  I.uniq 8 (OD.mp hy y (PH h1)) (OD.mp hy z (PH h3)) (oV r i y w h1 h2) (oV r j z w h3 h4)
 have hl:=OX r
 let e:OE->Bool:=fun w=>decide (∃(i:Nat) (y:T),ys[i]?=some y/\us[i]?=some w/\eqT y x=true)
 have ev:∀(i:Nat) y w,ys[i]?=some y->us[i]?=some w->e w=eqT y x:=fun i y w h1 h2=>by
  cases q:eqT y x with
  | true=>exact decide_eq_true ⟨i,y,h1,h2,q⟩
  | false =>
   refine decide_eq_false ?_;rintro⟨j,z,h3,h4,h5⟩;rw [<- uq i j y z w h1 h2 h3 h4,q] at h5;cases h5
 refine⟨e,fun w hw=>?_,?_,ev⟩
 ·obtain⟨i,hi,rfl⟩:=RA hw
  have e1:=Ge9 (l:=ys) (i:=i) (by omega);have e2:=Ge9 (l:=us) (i:=i) hi
  rw [ev i _ _ e1 e2];exact(I.rc 8 (OD.mp hy _ (OV (by omega))) hx hu (oV r i _ _ e1 e2) rx).2
 ·rw [QC,QT,QT]
  constructor
  ·rintro⟨w,hw,h⟩
   obtain⟨i,hi,rfl⟩:=RA hw;exact⟨ys[i]'(by omega),OV _,by rw [<- ev i _ _ (Ge9 (by omega)) (Ge9 hi)];exact h⟩
  ·rintro⟨y,hy,h⟩
   obtain⟨i,hi,rfl⟩:=RA hy;exact⟨us[i]'(by omega),OV _,by rw [ev i _ _ (Ge9 hi) (Ge9 (by omega))];exact h⟩
theorem qR {ch:Nat} {b:Cs}:(!(Builtin.Str.occurrences ⟨b.toArray⟩ ⟨[ch].toArray⟩ 0 (⟨b.toArray⟩:Str).length 1).isEmpty)=decide (ch∈b):=by
 have:=StrLaws.found_one ⟨b.toArray⟩ ch;simpa using this
theorem uA {x:T} {v:OE} (r:RT g none x v):(v == P7)=He x:=by cases r <;> rfl
end
section
variable {prog:Pp} {w:Qn} {A:Pm} {E:OE->OH->Prop} {s:OH}
theorem x5 (n d:Nat) (hd:d<=n) (o:Option Int):clip n d o<=n:=by
 cases o with
 | none=>exact hd
 | some v =>
  show(if v<0 then (v+(n:Int)).toNat else min v.toNat n)<=n;by_cases hv:v<0
  ·rw [if_pos hv];omega
  ·rw [if_neg hv];exact Nat.min_le_right _ _
theorem qS (v:Int) (n d:Nat):(if v<0 then max (v+(n:Int)) 0 else min v (n:Int))=((clip n d (some v):Nat):Int):=by
 show(if v<0 then max (v+(n:Int)) 0 else min v (n:Int))=(((if v<0 then (v+(n:Int)).toNat else min v.toNat n):Nat):Int);by_cases hv:v<0
 ·simp only [if_pos hv];omega
 ·simp only [if_neg hv];omega
theorem pB (lo hi:Option Int) (n:Nat):R3 lo hi 1 (n:Int)=(((clip n 0 lo:Nat):Int),((clip n n hi:Nat):Int)):=by
 have h1:¬ ((1:Int)<0):=by omega
 unfold R3;simp only [h1,if_false];refine Prod.ext ?_ ?_
 ·cases lo with
  | none=>rfl
  | some v=>exact qS v n 0
 ·cases hi with
  | none=>rfl
  | some v=>exact qS v n n
theorem pC (i j:Nat):Rn (i:Int) (j:Int) 1=j - i:=by
 unfold Rn;have h1:(1:Int) > 0:=by omega
 simp only [h1,if_true,Int.ediv_one];split <;> omega
theorem jj {v:OE} {o:Option Int} {Q:Option Int->OH->Prop} (p:IsPart v o) (h:Q o s):O3 (model prog w) A (Builtin.Slice.slicePartIndex v) Q E s:=by
 cases p with
 | none=>exact slicePart_none h
 | int i t=>exact slicePart_int h
theorem eg {sl:Pf} {vl vu:OE} {lo hi:Option Int} {n:Nat} {Q:Int × Int × Nat->OH->Prop} (hs:s.heap.IsSliceOf sl vl vu .none) (pl:IsPart vl lo) (pu:IsPart vu hi)
  (h:Q (((clip n 0 lo:Nat):Int),1,clip n n hi - clip n 0 lo) s):O3 (model prog w) A (Tv (.ref sl) (pure (n:Int))) Q E s:=by
 obtain⟨os,xV,Eo,Ep⟩:=id hs;unfold Tv Builtin.Slice.sliceFields;refine OB (OB (wpAny_field xV Ep (x:=vl) rfl (OB (wpAny_field xV Ep (x:=vu) rfl (OB (wpAny_field xV Ep (x:=.none) rfl (OC ?_)))))));refine OB (slicePart_none ?_);show O3 _ _ (if ((1:Int) == 0)=true then _ else _) _ _ s
 rw [if_neg (by decide)];refine OB (jj pl (OB (jj pu (OB (OC ?_)))));show O3 _ _ (match R3 lo hi 1 (n:Int) with|(lo,hi)=>pure (lo,(1:Int),Rn lo hi 1)) _ _ s
 rw [pB lo hi n];show O3 _ _ (pure (((clip n 0 lo:Nat):Int),(1:Int),Rn ((clip n 0 lo:Nat):Int) ((clip n n hi:Nat):Int) 1)) _ _ s
 rw [pC];exact OC h
theorem uB (xs:Array OE) (i k:Nat):((Pa k).filterMap fun(m:Nat)=>xs[((i:Int)+(m:Int) * 1).toNat]?).toArray=((xs.toList.drop i).take k).toArray:=by
 have e:(fun(m:Nat)=>xs[((i:Int)+(m:Int) * 1).toNat]?)=fun m=>xs[i+m]?:=by
  funext m;have:((i:Int)+(m:Int) * 1).toNat=i+m:=by omega
  rw [this]
 rw [e];have:=pick_run xs i k
 rw [List.filterMap_map] at this;have e2:((fun x=>xs[x]?) ∘ fun x=>i+x)=fun m=>xs[i+m]?:=rfl
 rw [e2] at this;rw [this]
theorem gS {t sl:Pf} {items:Array OE} {vl vu:OE} {lo hi:Option Int} {Q:OE->OH->Prop} (ht:IsTup s.heap t items) (hs:s.heap.IsSliceOf sl vl vu .none) (pl:IsPart vl lo) (pu:IsPart vu hi)
  (hw:¬ (clip items.size 0 lo=0/\clip items.size items.size hi=items.size))
  (h:Q (.ref s.heap.objs.size) { s with heap:=s.heap.push { cls:=.type "tuple",data:=.seq ((items.toList.drop (clip items.size 0 lo)).take (clip items.size items.size hi - clip items.size 0 lo)).toArray } })
  (hsz:items.size<=O6):O3 (model prog w) A (getItem (.ref t) (.ref sl)) Q E s:=by
 have qT:sizeOk (.seq ((items.toList.drop (clip items.size 0 lo)).take (clip items.size items.size hi - clip items.size 0 lo)).toArray):=by
  show((items.toList.drop (clip items.size 0 lo)).take (clip items.size items.size hi - clip items.size 0 lo)).toArray.size<=O6;rw [Qk,Qd,PN,PY];omega
 have hj:clip items.size items.size hi<=items.size:=x5 _ _ (OR _) hi;obtain⟨os,xV,Eo,Ep⟩:=id hs;have xI:s.TypeIs (.ref sl) "slice":=⟨os,xV,Eo⟩
 unfold getItem
 try with_reducible refine wpAny_holding ?_
 first|refine OB (OC ?_)|skip
 refine OB (wpAny_sequenceKey ht.typeIs (by decide) ?_);refine OB (wpAny_callSpecial?_slot (name:=Rg "__getitem__") ht.typeIs Ql
  (wpAny_call_entry Ql ht.typeIs entry_tuple_getitem ?_ (args_tuple_getitem _ _)))
 show O3 _ _ (RX (.ref t) >>= _) _ _ s;refine OB (tupleItemsOf_ ht ?_);refine OB (wpAny_typeOf xI ?_);rw [if_pos (by decide)];refine OB (eg hs pl pu ?_);have gq:¬ ((((clip items.size 0 lo:Nat):Int) == 0 && (1:Int) == 1 && (clip items.size items.size hi - clip items.size 0 lo) == items.size)=true):=by
  intro q;rw [ON,ON] at q;have q1:((clip items.size 0 lo:Nat):Int)=0:=eq_of_beq q.1.1
  have q2:clip items.size items.size hi - clip items.size 0 lo=items.size:=eq_of_beq q.2;exact hw ⟨by omega,by omega⟩
 show O3 _ _ (if (((clip items.size 0 lo:Nat):Int) == 0 && (1:Int) == 1 && (clip items.size items.size hi - clip items.size 0 lo) == items.size)=true then _ else _) _ _ s;rw [if_neg gq,uB]
 first
  | exact OB (m:=Rr _) (wpAny_newObj_type (OC ⟨_,rfl,OC h⟩) qT)
  | exact OB (m:=Rr _) (wpAny_newObj_type (OB (OC (OC ⟨_,rfl,OC h⟩))) qT)
  | exact OB (OB (m:=Rr _) (wpAny_newObj_type (OC (OC ⟨_,rfl,OC h⟩)) qT))
  | exact OB (OB (m:=Rr _) (wpAny_newObj_type (OC ⟨_,rfl,OC h⟩) qT))
theorem gU {t sl:Pf} {items:Array OE} {vl vu:OE} {lo hi:Option Int} {Q:OE->OH->Prop} (ht:IsTup s.heap t items) (hs:s.heap.IsSliceOf sl vl vu .none) (pl:IsPart vl lo) (pu:IsPart vu hi)
  (hw:clip items.size 0 lo=0/\clip items.size items.size hi=items.size) (h:Q (.ref t) s):O3 (model prog w) A (getItem (.ref t) (.ref sl)) Q E s:=by
 obtain⟨os,xV,Eo,Ep⟩:=id hs;have xI:s.TypeIs (.ref sl) "slice":=⟨os,xV,Eo⟩
 unfold getItem
 try with_reducible refine wpAny_holding ?_
 first|refine OB (OC ?_)|skip
 refine OB (wpAny_sequenceKey ht.typeIs (by decide) ?_);refine OB (wpAny_callSpecial?_slot (name:=Rg "__getitem__") ht.typeIs Ql
  (wpAny_call_entry Ql ht.typeIs entry_tuple_getitem ?_ (args_tuple_getitem _ _)))
 show O3 _ _ (RX (.ref t) >>= _) _ _ s;refine OB (tupleItemsOf_ ht ?_);refine OB (wpAny_typeOf xI ?_);rw [if_pos (by decide)];refine OB (eg hs pl pu ?_);have HP:(((clip items.size 0 lo:Nat):Int) == 0 && (1:Int) == 1 && (clip items.size items.size hi - clip items.size 0 lo) == items.size)=true:=by
  rw [hw.1,hw.2];simp
 show O3 _ _ (if (((clip items.size 0 lo:Nat):Int) == 0 && (1:Int) == 1 && (clip items.size items.size hi - clip items.size 0 lo) == items.size)=true then _ else _) _ _ s;rw [if_pos HP];unfold Builtin.Tuple.tupleIsExact;refine OB (OB (wpAny_typeOf ht.typeIs (OC ?_)));rw [if_pos (by decide)];refine OB (wpAny_rule ?_)
 first
  | exact OC ⟨_,rfl,OC h⟩
  | exact OB (OC (OC ⟨_,rfl,OC h⟩))
end
theorem lT (lo hi:Option Int) (n:Nat):(sliceBounds lo hi none n).1=((clip n 0 lo:Nat):Int)/\(sliceBounds lo hi none n).2.1=((clip n n hi:Nat):Int)/\(sliceBounds lo hi none n).2.2=1:=by
 refine⟨?_,?_,rfl⟩
 ·cases lo with
  | none=>simp [sliceBounds,clip]
  | some i =>
   simp only [sliceBounds,clip,Uy,show(1:Int) > 0 by decide,if_true];by_cases h:i<0
   ·simp only [h,if_true] <;> omega
   ·simp only [h,if_false] <;> omega
 ·cases hi with
  | none=>simp [sliceBounds,clip]
  | some i =>
   simp only [sliceBounds,clip,Uy,show(1:Int) > 0 by decide,if_true];by_cases h:i<0
   ·simp only [h,if_true] <;> omega
   ·simp only [h,if_false] <;> omega
theorem jY (its:List OE) (lo hi:Option Int):slicePick its.toArray lo hi none=((its.drop (clip its.length 0 lo)).take (clip its.length its.length hi - clip its.length 0 lo)).toArray:=by
 obtain⟨h1,h2,h3⟩:=lT lo hi its.toArray.size;unfold slicePick;rw [h1,h2,h3];simp only [sliceRange_one,pick_run,Qk] <;> rfl
section
variable {X:Cx} {pins:ar} {φ:Fr} {g:G} {L:Live} {s:OH} {xs ys:List T} {us vs:List OE} {e a b:Expr} {m ma mb:SE} {pos p2:Pos}
theorem jk {n:Nat} {i:Int} {j:Nat} (h:place n i=some j):seqIndex? i n=some j/\j<n/\-(n:Int)<=i/\i<n/\((0<=i/\i.toNat=j)\/(i<0/\(i+n).toNat=j)):=by
 unfold place at h;by_cases h0:0<=i
 ·rw [if_pos h0] at h
  by_cases h1:i<n
  ·rw [if_pos h1] at h
   cases h;exact⟨PySem.StrLaws.seqIndex_nonneg h0 h1,by omega,by omega,h1,.inl ⟨h0,rfl⟩⟩
  ·rw [if_neg h1] at h;cases h
 ·rw [if_neg h0] at h
  by_cases h1:-(n:Int)<=i
  ·rw [if_pos h1] at h
   cases h;exact⟨seqIndex_neg (by omega) h1,by omega,h1,by omega,.inr ⟨by omega,rfl⟩⟩
  ·rw [if_neg h1] at h;cases h
noncomputable def sM:Expr->Bool
 | .Slice ..=>false
 | _=>true
theorem uC (h:sM b=true):∀o i,subscripted b false o i=operate [o,i] (getItem o i):=fun o i=>by
 cases b <;> first|rfl|cases h
theorem pD:(O6:Nat)<2 ^ 63:=by rw [P9];decide
theorem gV {o:Option T} {w:T} {L':Live} (h:lift o L=.ok w L'):o=some w/\L'=L:=by
 cases o with
 | none=>cases h
 | some t=>cases h;exact⟨rfl,rfl⟩
noncomputable def PO (X:Cx) (e:Option Expr) (m:Option SE):Prop:=∀{pins:ar} {φ:Fr} {g:G} {L:Live} {s:OH} {o:Option Int} {L':Live},Inv X pins φ g L s->AJ m φ L=.ok o L'->O3 (model X.prog X.w) X.A (evalPart e X.env) (fun u s'=>∃g',Le g g'/\Inv X pins φ g' L' s'/\IsPart u o) F0 s
theorem x6:PO X none none:=fun I h=>by cases h;rw [evalPart_none];exact OC ⟨_,.refl _,I,.none⟩
theorem x7 (h:PE X e m):PO X (some e) (some m):=fun I q=>by
 obtain⟨t,L1,e1,q⟩:=R.of q;cases t <;> first|cases q|skip
 rw [evalPart_some];exact a7 (h I e1) fun u s1 ⟨g1,l1,I1,r1⟩=>by obtain⟨_,rfl⟩:=r1.iI;exact⟨g1,l1,I1,.int _ _⟩
theorem bz.drop (h:bz g xs us):∀n,bz g (xs.drop n) (us.drop n):=by
 induction h with
 | nil=>intro n;simp;exact .nil
 | cons a b ih=>intro n;cases n with
  | zero=>exact .cons a b
  | succ n=>simpa using ih n
theorem bz.take (h:bz g xs us):∀n,bz g (xs.take n) (us.take n):=by
 induction h with
 | nil=>intro n;simp;exact .nil
 | cons a b ih=>intro n;cases n with
  | zero=>exact .nil
  | succ n=>simp;exact .cons a (ih n)
theorem x8 {α:Type} (xs:List α) (lo hi:Option Int):(cut xs lo hi).length<=xs.length:=by
 unfold cut;rw [Qd,PN];omega
theorem part_of {v:OE} {o:Option Int} (p:IsPart v o):∃q:Option (Int × Tok),v=partValue q/\q.map (·.1)=o:=by
 cases p with
 | none=>exact⟨none,rfl,rfl⟩
 | int i t=>exact⟨some (i,t),rfl,rfl⟩
theorem lU {z z2:Cs} {t:Tok} {vl vu:OE} {lo hi:Option Int} {sl:Pf} (I:Inv X pins φ g L s) (hz:z.length<=O6) (hs:s.heap.IsSliceOf sl vl vu .none) (pl:IsPart vl lo) (pu:IsPart vu hi) (e2:(Txt.slice ⟨z.toArray⟩ lo hi == ⟨z2.toArray⟩)=true) (h2:z2.length<=z.length) :
  ∃T id,typeLookup (.type T) "__getitem__"=pure (some (.builtin id))/\s.TypeIs (.str ⟨z.toArray⟩ t) T/\O3 (model X.prog X.w) X.A (getItem (.str ⟨z.toArray⟩ t) (.ref sl)) (EP X pins φ g (.str z2) L) F0 s:=by
 obtain⟨ql,rfl,el⟩:=part_of pl;obtain⟨qu,rfl,eu⟩:=part_of pu;refine⟨"str",_,F.slot_str_getitem.lookup,typeIs_str _ _ _,wpAny_getItem_str_slice (l:=ql) (u:=qu) (st:=none) hs rfl ?_⟩;have e:sliceMade ⟨z.toArray⟩ t ql qu none=if ((1:Int) == 1 && (Ti lo hi 1 (⟨z.toArray⟩:Str).length).length == (⟨z.toArray⟩:Str).length)=true then .val (.str ⟨z.toArray⟩ t) else .str ⟨((Ti lo hi 1 (⟨z.toArray⟩:Str).length).filterMap ((⟨z.toArray⟩:Str).cps[·]?)).toArray⟩:=by
  unfold sliceMade slicePicked;rw [el,eu];rfl
 rw [e];have hlen:(⟨z.toArray⟩:Str).length=z.length:=by show z.toArray.size=_;simp
 exact post_val_or_str ⟨Pq (Txt.slice_le _ _ _) (by rw [hlen];exact hz),fun t' k=>(I.tok _).ep (by show RT g none _ (RM (Txt.slice ⟨z.toArray⟩ lo hi) t');rw [eq_of_beq e2];exact .str _ _ (Pq h2 hz))⟩
theorem Bs {fz:Bool} {x w:T} {u vl vu:OE} {lo hi:Option Int} {sl:Pf} {L':Live} (I:Inv X pins φ g L s) (rx:RT g none x u) (hs:s.heap.IsSliceOf sl vl vu .none) (pl:IsPart vl lo) (pu:IsPart vu hi) (h:oX fz x lo hi L=.ok w L') :
  ∃T id,typeLookup (.type T) "__getitem__"=pure (some (.builtin id))/\s.TypeIs u T/\O3 (model X.prog X.w) X.A (getItem u (.ref sl)) (EP X pins φ g w L') F0 s:=by
 obtain⟨p,vx⟩:=I.view rx;unfold oX at h;generalize vw L x=x' at h vx;cases x' with
 | str z =>
  obtain⟨t,rfl,hz⟩:=vx.gD;have hlen:(⟨z.toArray⟩:Str).length=z.length:=by show z.toArray.size=_;simp
  match lo,hi,pl,pu,h with
  | some i,some j,pl,pu,h =>
   obtain⟨⟨h0,h1,h2⟩,h⟩:=ao h;cases h;exact lU I hz hs pl pu (by simpa using slice_closesL (x:=⟨z.toArray⟩) h0 h1 (by rw [hlen];exact h2)) (by rw [Qd,PN];omega)
  | none,some j,pl,pu,h =>
   obtain⟨⟨h0,h2⟩,h⟩:=ao h;cases h;exact lU I hz hs pl pu (by simpa using slice_closes_toL (x:=⟨z.toArray⟩) h0 (by rw [hlen];exact h2)) (by rw [Qd];omega)
  | some i,none,pl,pu,h =>
   obtain⟨⟨h0,h2⟩,h⟩:=ao h;cases h;refine lU I hz hs pl pu ?_ (by rw [PN];omega);have e:=slice_closes_fromL (x:=⟨z.toArray⟩) h0 (by rw [hlen];exact h2) rfl
   rw [Pk (by rw [hlen,PN];simp;omega)] at e;simpa using e
 | tup xs =>
  cases h;obtain⟨a,its,rfl,ht,r,hz⟩:=I.tupP vx;have hlen:its.size=xs.length:=by have:=OX r;simp at this;omega
  refine⟨"tuple",_,Ql.lookup,ht.typeIs,?_⟩;by_cases hw:clip its.size 0 lo=0/\clip its.size its.size hi=its.size
  ·refine gU ht hs pl pu hw (I.ep ?_)
   have e:cut xs lo hi=xs:=by
    unfold cut;rw [hlen] at hw;rw [hw.1,hw.2];simp
   rw [e];exact vx.tI.1
  ·refine gS ht hs pl pu hw ?_ (by rw [hlen];exact hz)
   rw [hlen];exact uz (w:=.bK) (t':=s.toks) I ((r.drop _).take _) (Pq (x8 xs lo hi) hz) (fun b u e=>OJ _ e) (OR _) (OM _ rfl)
 | lst xs =>
  obtain⟨a,its,n,rfl,e,r,hz⟩:=I.lst vx;have hlen:its.size=xs.length:=by have:=OX r;simp at this;omega
  refine⟨"list",_,slot_list_getitem.lookup,(aa e).typeIs,?_⟩;refine wpAny_getItem_list_slice (aa e) hs pl pu .none (by simp) ?_ (by omega);rw [show its=its.toList.toArray by simp,jY,PY,hlen];exact jd (t':=s.toks) I ((r.drop _).take _) h (fun b u e=>OJ _ e) (OM _ rfl)
 | _=>cases h
theorem Bt {fz:Bool} {lo hi:Option Expr} {ml mh:Option SE} (he:PE X e m) (hl:PO X lo ml) (hh:PO X hi mh):PE X (.Subscript e (.Slice lo hi none p2) pos) (sl fz m ml mh):=fun I h=>by
 obtain⟨x,L1,e1,h⟩:=R.of h;obtain⟨l,L2,e2,h⟩:=R.of h;obtain⟨r,L3,e3,h⟩:=R.of h;refine Subscript_ (a7 (he I e1) fun v s1 ⟨g1,l1,I1,r1⟩=>wpAny_Slice (a7 (hl I1 e2) fun vl s2 ⟨g2,l2,I2,pl⟩=>a7 (hh I2 e3) fun vu s3 ⟨g3,l3,I3,pu⟩=>?_));rw [evalPart_none];refine OC ?_;have I4:=I3.kept (h':=s3.heap.push { cls:=.type "slice",data:=.fields #[vl,vu,.none] }) (t':=s3.toks) fun b ob q=>OJ _ q
 obtain⟨T,id,hT,ht,hg⟩:=Bs I4 (r1.le (l2.trans l3)) (Heap.IsSliceOf.new ..) pl pu h;exact tail_any (ops:=[.ref s3.heap.objs.size,v]) ht hT (a7 hg fun _ _ z=>z.le ((l1.trans l2).trans l3)) (by with_unfolding_all rfl)
end
section
variable {X:Cx} {pins:ar} {φ:Fr} {g:G} {L L':Live} {s:OH} {xs ys:List T} {us vs:List OE} {e o:Expr} {es:List Expr} {m:SE} {ms:List SE} {pos p apos:Pos} {x:Str} {F:Fn} {t w:T} {u v:OE}
theorem Bu (hc:∃f,bootBuiltins x=some f/\dN X f F/\((∃id,f=.builtin id)\/∃T,f=.type T)) (hg:Gl X x) (hm:X.mg x=none) (hn:x≠"__name__") (pz:(x == ("__debug__":Str))=false) (ha:PA X (e::es) (d5 ms)) (hs:(e::es).all aC=true):PE X (.Call (.Name x p) (e::es) [] pos) (aq F ms):=fun I h=>by
 obtain⟨ts,L1,e1,h⟩:=R.of h;obtain⟨f,hv,hF,hk⟩:=hc;rw [PK,ON] at hs;refine wpAny_Call_Name_kw (eL I hg hm hv ?_ hn pz);have A:=a7 (E:=F0) (Q':=fun us s1=>O3 (model X.prog X.w) X.A (call f us) (EP X _ _ _ _ _) F0 s1) (ha pos I e1) fun us s1 ⟨g1,l1,I1,r1⟩=>a7 (hF I1 r1 h) fun _ _ z=>z.le l1
 rcases hk with⟨id,rfl⟩|⟨T,rfl⟩
 ·exact callWith_builtin1 A (ah hs.1) (aP hs.2)
 ·exact callWith_type1 A (ah hs.1) (aP hs.2)
theorem cY (r:bz g [t] us):∃u,us=[u]/\RT g none t u:=by
 cases r with|cons a b=>cases b;exact⟨_,rfl,a⟩
theorem il {t1 t2:T} (r:bz g [t1,t2] us):∃u1 u2,us=[u1,u2]/\RT g none t1 u1/\RT g none t2 u2:=by
 cases r with|cons a b=>obtain⟨u,rfl,c⟩:=cY b;exact⟨_,_,rfl,a,c⟩
theorem str_len {z:Cs}:(⟨z.toArray⟩:Str).length=z.length:=by show z.toArray.size=_;simp
theorem uD:dN X (.builtin "len") cW:=fun {_ _ _ _ _ xs _ _ _} I r h=>by
 have hn:=pD;unfold cW at h;split at h
 ·obtain⟨u,rfl,ru⟩:=cY r
  obtain⟨p,v⟩:=I.view ru;split at h
  ·rename_i ev
   cases h;rw [ev] at v;obtain⟨t,rfl,hz⟩:=v.gD;refine len_str (by rw [str_len];omega) ?_;rw [str_len];exact(I.tok _).ep (.int _ _)
  ·rename_i ev
   cases h;rw [ev] at v;obtain⟨a,its,rfl,e,rr,hz⟩:=I.tupP v;have hl:=OX rr
   exact len_tuple e (by simp at hl;omega) (by rw [show its.size=_ from by simpa using hl.symm];exact(I.tok _).ep (.int _ _))
  ·rename_i ev
   cases h;rw [ev] at v;obtain⟨a,its,n,rfl,e,rr,hz⟩:=I.lst v;have hl:=OX rr
   exact Calls.call_len_list (aa e) (by simp at hl;omega) (by rw [show its.size=_ from by simpa using hl.symm];exact(I.tok _).ep (.int _ _))
  ·cases h
 ·cases h
theorem Inv.seq {q:Option (Pf × Pf)} (I:Inv X pins φ g L s) (r:RT g q t u) (h:t=.lst xs\/t=.tup xs):∃a its o n T,u=.ref a/\s.heap.get? a=some o/\o.cls=.type T/\o.data=.seq its n/\(T="list"\/T="tuple")/\bz g xs its.toList/\its.size=xs.length/\xs.length<=O6:=by
 rcases h with rfl|rfl
 ·obtain⟨a,its,n,rfl,e,rr,hz⟩:=I.lst r
  exact⟨a,its,_,n,_,rfl,e,rfl,rfl,.inl rfl,rr,by simpa using (OX rr).symm,hz⟩
 ·obtain⟨a,its,rfl,⟨o,ho,hc,n,hd⟩,rr,hz⟩:=I.tupP r
  exact⟨a,its,o,n,_,rfl,ho,hc,hd,.inr rfl,rr,by simpa using (OX rr).symm,hz⟩
theorem qU {fz:Bool} (I:Inv X pins φ g L s) (ru:RT g none t u) (ht:vw L t=.lst xs\/vw L t=.tup xs) (h:eE fz xs L=.ok w L'):O3 (model X.prog X.w) X.A (call (.type "list") [u]) (EP X pins φ g w L') F0 s:=by
 obtain⟨p,v⟩:=I.view ru;obtain⟨a,its,o,n,T,rfl,ho,hc,hd,hT,rr,hl,hz⟩:=I.seq v ht;exact call_list_seq a hT ho hc hd (fun h' c' kp e=>jd (t':=s.toks) (n:=c') I rr h kp (by simpa using e)) (by omega)
theorem uE:dN X (.type "tuple") gA:=fun {_ _ _ _ s _ _ _ _} I r h=>by
 unfold gA at h;split at h
 ·obtain⟨u,rfl,ru⟩:=cY r
  obtain⟨p,v⟩:=I.view ru;split at h
  ·rename_i ev
   rw [ev] at v;cases h;obtain⟨a,its,rfl,e,rr,hz⟩:=I.tupP v;exact call_tuple_same e (I.ep v.tI.1)
  ·rename_i ev
   rw [ev] at v;cases h;obtain⟨a,its,n,rfl,e,rr,hz⟩:=I.lst v;have hl:=OX rr
   refine call_tuple_list (aa e) (fun h' kp=>?_) (by simp at hl;omega);have J:=I.kept (t':=s.toks) kp
   exact uz (w:=.bK) (t':=s.toks) (n:=0) J rr hz (fun b o e=>OJ _ e) (OR _) (by simpa using OM h' (o:={ cls:=.type "tuple",data:=.seq its }) rfl)
  ·cases h
 ·cases h
theorem Bv {y:T} {b:Cs} {v:OE} (h:oU y=some b) (r:RT g none y v):∃t,v=.str ⟨b.toArray⟩ t/\b.length<=O6:=by
 cases y <;> cases h;exact r.gD
theorem Er {xs:List T} {w:T} {L':Live} (h:AK xs L=.ok w L'):∃x n,xs=[x,.cl (.type n)]/\Hy L n x=.ok w L':=by
 match xs,h with
 | [x,y],h =>
  have h:(match Hz y with|some n=>Hy L n x|none=>.bad)=.ok w L':=h;cases e:Hz y with
  | none=>rw [e] at h;cases h
  | some n =>
   rw [e] at h;refine⟨x,n,?_,h⟩;cases y with
   | cl c=>cases c with
    | type m=>cases e;rfl
    | _=>cases e
   | _=>cases e
theorem yc:dN X (.builtin "isinstance") AK:=fun {_ _ _ L s _ w L' _} I r h=>by
 obtain⟨x,n,rfl,h⟩:=Er h;obtain⟨u,v,rfl,r1,r2⟩:=il r;obtain rfl:=r2.cI;have key:∀{b k:Bool} {P:Prop},(n="bool"->L'=L->w=.bl b->P)->(n="int"->L'=L->w=.bl k->P)->(if n="bool" then R.ok (T.bl b) L else if n="int" then .ok (.bl k) L else .bad)=.ok w L'->P:=fun f k h=>by
  split at h
  ·cases h;exact f ‹_› rfl rfl
  ·split at h
   ·cases h;exact k ‹_› rfl rfl
   ·cases h
 have one:∀{m:String},(if n=m then R.ok (T.bl true) L else .bad)=.ok w L'->n=m/\L'=L/\w=.bl true:=fun h=>by
  split at h
  ·cases h;exact⟨‹_›,rfl,rfl⟩
  ·cases h
 cases x with
 | bl b =>
  obtain rfl:=r1.bI;exact key (fun a b c=>by subst a b c;exact PySem.IsiPair.bool_bool (I.ep (.bl _))) (fun a b c=>by subst a b c;exact PySem.IsiPair.bool_int (I.ep (.bl _))) h
 | int i =>
  obtain⟨_,rfl⟩:=r1.iI;exact key (fun a b c=>by subst a b c;exact PySem.IsiPair.int_bool ((I.tok _).ep (.bl _))) (fun a b c=>by subst a b c;exact PySem.IsiPair.int_int (I.ep (.bl _))) h
 | tup xs =>
  obtain⟨rfl,rfl,rfl⟩:=one h;obtain⟨a,its,rfl,⟨o,e,hc,_⟩,_⟩:=I.tupP r1;exact US (UT (Tx:="tuple") PySem.F.isi_meta_tuple PySem.F.sub_tuple_tuple) ⟨⟨o,e,hc⟩,I.ep (.bl _)⟩
 | lst xs =>
  obtain⟨rfl,rfl,rfl⟩:=one h;obtain⟨a,its,n,rfl,e,_⟩:=I.lst r1;exact US (UT (Tx:="list") PySem.F.isi_meta_list PySem.F.sub_list_list) ⟨⟨_,e,rfl⟩,I.ep (.bl _)⟩
 | _=>cases h
noncomputable def Bw (X:Cx) (id:String) (m:T->Fn):Prop:=∀{pins:ar} {φ:Fr} {g:G} {L:Live} {s:OH} {x:T} {xs:List T} {w:T} {L':Live} {v:OE} {us:List OE},Inv X pins φ g L s->RT g none x v->bz g xs us->m x xs L=.ok w L'->O3 (model X.prog X.w) X.A (call (.builtin id) (v::us)) (EP X pins φ g w L') F0 s
noncomputable def Ty.nm:Ty->String
 | .s=>"str"|.l=>"list"|.t=>"tuple"|.d=>"dict"
theorem Bx {n:Ty} (I:Inv X pins φ g L s) (r:RT g none t u) (h:xG L t=some n):s.TypeIs u n.nm/\(∀a,u=.ref a->∃o,s.heap.get? a=some o/\o.dict=none):=by
 obtain⟨p,v⟩:=I.view r;unfold xG at h;split at h <;> first|cases h|skip
 all_goals (rename_i ev;rw [ev] at v)
 ·obtain⟨t,rfl,_⟩:=v.gD
  exact⟨typeIs_str _ _ _,fun a e=>by cases e⟩
 ·obtain⟨a,its,n,rfl,e,_⟩:=I.lst v
  exact⟨⟨_,e,rfl⟩,fun b q=>by cases q;exact⟨_,e,rfl⟩⟩
 ·obtain⟨_,_,_,_,_,rfl,hk,hc,_⟩:=v.tI
  exact⟨⟨_,I.kn hk,hc.1⟩,fun b q=>by cases q;exact⟨_,I.kn hk,hc.2⟩⟩
 ·cases v with
  | aO _ hk hx=>exact⟨⟨_,I.kn hk,hx.1⟩,fun b q=>by cases q;exact⟨_,I.kn hk,hx.2.1⟩⟩
noncomputable def By (X:Cx) (x:Str) (y:Ty) (F:T->Fn):Prop:=∃id,PlainAttrs y.nm/\Slot y.nm x id/\typeOf (.builtin id)=pure (.type "method_descriptor")/\Bw X id F
theorem yd {f:Ty->Option (T->Fn)} (hM:∀T F,f T=some F->By X x T F) (ho:PE X o m) (ha:PA X es (d5 ms)) (h0:es=[]->ms=[]) (hs:es.all aC=true) (hl:es.length<30) (hb:jh o=true) (uF:(apos.endLine == pos.line)=true) :
  PE X (.Call (.Attribute o x apos) es [] pos) (aY f m ms):=fun I h=>by
 obtain⟨t,L1,e1,h⟩:=R.of h;cases ef:(xG L1 t).bind f with
 | none=>simp only [ef] at h;cases h
 | some F =>
  simp only [ef] at h;obtain⟨T,hT,hF⟩:=QV.mp ef;obtain⟨ts,L2,e2,h⟩:=R.of h;obtain⟨id,pa,slot,DH,hm⟩:=hM T F hF;refine wpAny_Call_method_late (qP hb) (uy hs hl) uF rfl (a7 (ho I e1) fun v s1 ⟨g1,l1,I1,r1⟩=>?_);obtain⟨h1,h2⟩:=Bx I1 r1 hT;refine⟨T.nm,id,pa,slot,DH,h1,h2,?_⟩;refine UE (aP hs) ?_;cases es with
  | nil =>
   rw [h0 rfl] at e2;cases e2;exact Vg (a7 (hm I1 r1 .nil h) fun _ _ z=>z.le l1)
  | cons e es =>
   rw [PK,ON] at hs;have A:=ha pos I1 e2
   rw [ah hs.1] at A ⊢;exact U5 (a7 A fun us s2 ⟨g2,l2,I2,r2⟩=>a7 (hm I2 (r1.le l2) r2 h) fun _ _ z=>z.le (l1.trans l2))
theorem Inv.ye {n:Nat} {its:Array OE} {cnt:Nat} {a:Pf} {f:Array OE->Array OE} {t':Nat} (I:Inv X pins φ g L s) (hc:at_ L n=some (.lst xs)) (ru:RT g none (.ref n) (.ref a)) (e:s.heap.get? a=some { cls:=.type "list",data:=.seq its cnt }) (r:bz g ys (f its).toList) (hz:ys.length<=O6) :
  EP X pins φ g .bK (put L n (.lst ys)) .none { s with heap:=s.heap.update a (Qx f),toks:=t' }:=by
 obtain⟨p,hp,rc⟩:=I.rel.cells n _ hc;cases ru with
 | ref hq =>
  rw [hp] at hq;cases hq;generalize qV:(some p:Option (Pf × Pf))=pp at rc;generalize LF:Q4 p.1=pa at rc;cases rc with
  | lst ht hk NZ hl hi =>
   cases LF;subst qV;have q:=Vy e f
   obtain⟨n',hn'⟩:∃n',(s.heap.update p.1 (Qx f)).get? p.1=some { cls:=.type "list",data:=.seq (f its) n' }:=⟨_,q⟩;have hH:∃o,g.H p.1=some (false,o):=by
    rcases hk with hk|⟨z,_⟩
    ·exact⟨_,hk⟩
    ·cases z
   obtain⟨o,hH⟩:=hH;have l:=Le.set (o:={ cls:=.type "list",data:=.seq (f its) n' }) hH
   refine⟨_,l,I.set (t':=t') hp (.inl rfl) hH (fun b v hb hv=>(Po s.heap (Qx f) (Qz hb)).trans hv) hn' ?_,.bK⟩;have:=r.lst (o:=default) (g1:=g.set p.1 { cls:=.type "list",data:=.seq (f its) n' }) (n:=n') l ht (.inl (by rw [show(f its).toList.toArray=f its by simp];exact ak)) hz
   exact this
theorem Inv.qW {n:Nat} (I:Inv X pins φ g L s) (rx:RT g none (.ref n) v) (ea:at_ L n=some (.lst ys)):∃a its cnt,v=.ref a/\s.heap.get? a=some { cls:=.type "list",data:=.seq its cnt }/\bz g ys its.toList/\its.size=ys.length/\ys.length<=O6:=by
 obtain⟨p,v⟩:=I.view rx;rw [show vw L (.ref n)=.lst ys by show(at_ L n).getD T.bK=_;rw [ea];rfl] at v;obtain⟨a,its,cnt,rfl,e,rr,hz⟩:=I.lst v;exact⟨a,its,cnt,rfl,e,rr,by simpa using (OX rr).symm,hz⟩
theorem Bz:Bw X "list.append" xH:=fun I rx rv h=>by
 unfold xH at h;split at h
 ·split at h
  ·rename_i n t _ ys ea
   obtain⟨hz,h⟩:=ao h;cases h;obtain⟨u,rfl,ru⟩:=cY rv;obtain⟨a,its,cnt,rfl,e,rr,hl,_⟩:=I.qW rx ea;have bT:ys.length<O6:=hz
   refine call_meets S7 ⟨_,e,rfl⟩ F.entry_list_append (F.args_list_append_2 _ _) (PySem.list_append a its cnt u (by omega)) ⟨e,?_⟩;exact I.ye ea rx e (by simpa using rr.app (.cons ru .nil)) (by simp;omega)
  ·cases h
 ·cases h
theorem nA {prog:Pp} {w:Qn} {A:Pm} {P:Nat->OE->Prop} (f:Nat->Cs) (hf:∀i v,P i v->∃t,v=.str ⟨(f i).toArray⟩ t):CmpOf prog w A .Lt P (fun i j=>decide (f i<f j)):=fun i j vi vj s Q E hi hj h=>by
 obtain⟨t,rfl⟩:=hf i vi hi;obtain⟨u,rfl⟩:=hf j vj hj;have h:Q (.bool (decide ((⟨(f i).toArray⟩:Str).cps.toList<(⟨(f j).toArray⟩:Str).cps.toList))) s:=h
 exact(Vh h:O3 (model prog w) A (compareOp .Lt _ _) Q E s)
theorem uG:dN X (.builtin "min") ub:=fun {_ _ g _ s _ _ _ _} I r h=>by
 unfold ub at h;split at h
 ·cases h
  rename_i i j;obtain⟨u,v,rfl,r1,r2⟩:=il r;cases r1;cases r2;refine min_two_ints I.ok.hd fun h' tk k=>(I.kept k).ep ?_
  by_cases hj:j<i
  ·rw [if_pos hj,if_pos hj];exact .int _ _
  ·rw [if_neg hj,if_neg hj];exact .int _ _
 ·cases h
  rename_i a b;obtain⟨u,v,rfl,r1,r2⟩:=il r;obtain⟨t,rfl,ha⟩:=r1.gD;obtain⟨t',rfl,hb⟩:=r2.gD;have hT:(s.heap.push { cls:=.type "tuple",data:=.seq #[.str ⟨a.toArray⟩ t,.str ⟨b.toArray⟩ t'] }).IsTuple s.heap.objs.size #[.str ⟨a.toArray⟩ t,.str ⟨b.toArray⟩ t']:=⟨_,OM _ rfl,rfl,0,rfl⟩
  refine call_min_two (wpAny_pyIter_tuple hT ?_);have hsz:(s.heap.push { cls:=.type "tuple",data:=.seq #[.str ⟨a.toArray⟩ t,.str ⟨b.toArray⟩ t'] }).objs.size=s.heap.objs.size+1:=Rl ..
  refine⟨_,[_,s.heap.objs.size],[_],_,_,_,fun i j=>decide ([a,b].getD i [] < [a,b].getD j []),rfl,Walks.tuple (A:=X.A.in1) I.ok.hd _ s.heap.objs.size (by rw [hsz];exact O8 (QJ _)) #[.str ⟨a.toArray⟩ t,.str ⟨b.toArray⟩ t'],
   ⟨⟨_,OM _ rfl,rfl,rfl⟩,hT.push _⟩,fun b hb=>?_,(by show 0<2;decide),nA (fun i=>[a,b].getD i []) (fun i v hP=>?_),fun v h' tk hP hk=>?_⟩
  ·show _<((s.heap.push _).push _).objs.size
   rw [Rl,hsz];rcases OS.mp hb with rfl|hb
   ·rw [hsz];exact QJ _
   ·rcases OS.mp hb with rfl|hb
    ·exact QK (QJ _)
    ·cases hb
  ·have hP:#[RM ⟨a.toArray⟩ t,RM ⟨b.toArray⟩ t'][i]?=some v:=hP
   match i,hP with
   | 0,hP=>exact⟨t,by simpa using hP.symm⟩
   | 1,hP=>exact⟨t',by simpa using hP.symm⟩
   | i+2,hP=>simp at hP
  ·have hold:∀c o,s.heap.get? c=some o->h'.get? c=some o:=fun c o e=>by
    refine hk c o (fun hm=>?_) (OJ _ (OJ _ e));rcases OS.mp hm with e1|hm
    ·have:=O4 e;rw [e1,hsz] at this;exact Qj _ (Nat.lt_of_succ_lt this)
    ·cases hm
   have hP:#[RM ⟨a.toArray⟩ t,RM ⟨b.toArray⟩ t'][argBest (fun i j=>decide ([a,b].getD i [] < [a,b].getD j [])) 1]?=some v:=hP;refine(I.kept (t':=tk) hold).ep ?_;by_cases hb':b<a
   ·rw [if_pos hb']
    have e:argBest (fun i j=>decide ([a,b].getD i [] < [a,b].getD j [])) 1=1:=by
     show(if decide (b<a)=true then 1 else 0)=1;rw [decide_eq_true hb'];rfl
    rw [e] at hP;have:RM ⟨b.toArray⟩ t'=v:=by simpa using hP
    rw [<- this];exact .str _ _ hb
   ·rw [if_neg hb']
    have e:argBest (fun i j=>decide ([a,b].getD i [] < [a,b].getD j [])) 1=0:=by
     show(if decide (b<a)=true then 1 else 0)=0;rw [decide_eq_false hb'];rfl
    rw [e] at hP;have:RM ⟨a.toArray⟩ t=v:=by simpa using hP
    rw [<- this];exact .str _ _ ha
 ·cases h
theorem Es (sep:Cs) (zs:List Cs):Txt.join (toS sep) (zs.map toS)=toS (jn sep zs)/\(jn sep zs).length<=(zs.map (·.length)).sum+zs.length * sep.length:=by
 have e:Txt.join (toS sep) (zs.map toS)=Str.join (toS sep) (zs.map toS):=eq_of_beq (PyProof.Rows.join_plain_closes _ _);rw [e];clear e;induction zs with
 | nil=>exact⟨rfl,by simp [jn]⟩
 | cons x r ih =>
  cases r with
  | nil=>exact⟨rfl,by simp [jn]⟩
  | cons y r =>
   obtain⟨h1,h2⟩:=ih;constructor
   ·show toS x++toS sep++Str.join (toS sep) ((y::r).map toS)=_
    rw [h1];show(⟨x.toArray++sep.toArray++(jn sep (y::r)).toArray⟩:Str)=⟨(x++sep++jn sep (y::r)).toArray⟩
    simp
   ·show(x++sep++jn sep (y::r)).length<=_
    rw [OL,OL,OZ,Sh,OP,Nat.add_mul];omega
theorem lV:∀{ys:List T} {zs:List Cs} {us:List OE},ys.mapM oU=some zs->bz g ys us->StrsAre us (zs.map toS)
 | [],zs,us,h,r=>by simp at h;subst h;cases r;exact .nil
 | y::ys,zs,us,h,r=>by
  rw [R2] at h;cases e1:oU y with
  | none=>rw [e1] at h;cases h
  | some b =>
   rw [e1] at h;cases e2:ys.mapM oU with
   | none=>rw [e2] at h;cases h
   | some q =>
    rw [e2] at h;have h:some (b::q)=some zs:=h
    cases h;cases r with
    | cons a1 a2 =>
     obtain⟨t,rfl,_⟩:=Bv e1 a1;exact .cons _ t (lV e2 a2)
theorem yf:Bw X "str.join" da:=fun {_ _ g L s _ _ w1 L1 _ _} I rx rv h=>by
 unfold da at h;split at h
 ·rename_i sep t
  obtain⟨u,rfl,ru⟩:=cY rv;obtain⟨tk,rfl,_⟩:=rx.gD;obtain⟨p,v⟩:=I.view ru;split at h
  ·rename_i zs ez
   obtain⟨ys,y1,y2⟩:=QV.mp ez;unfold items at y1;have fin:bD ((zs.map (·.length)).sum+zs.length * sep.length<=16777216) (R.ok (T.str (jn sep zs)) L)=.ok w1 L1->(vw L t=.lst ys\/vw L t=.tup ys)->O3 (model X.prog X.w) X.A (call (.builtin "str.join") [.str ⟨sep.toArray⟩ tk,u]) (EP X _ _ g w1 L1) F0 s:=fun h hv=>by
    obtain⟨hz,h⟩:=ao h;cases h;obtain⟨e1,e2⟩:=Es sep zs;have hz':((zs.map toS).map (·.length)).sum+(zs.map toS).length * (toS sep).length<=16777216:=by
     have:(fun z:Cs=>(toS z).length)=fun z=>z.length:=funext fun z=>str_len
     simp only [Py,Lm9,SG,this];rw [show(toS sep).length=sep.length from str_len];exact hz
    have rj:∀t',RT g none (.str (jn sep zs)) (.str (Txt.join (toS sep) (zs.map toS)) t'):=fun t'=>by
     rw [e1];exact .str _ _ (Pq e2 hz)
    rcases hv with hv|hv
    ·rw [hv] at v
     obtain⟨a,its,n,rfl,e,rr,_⟩:=I.lst v;exact join_list (items:=its) (aa e) (lV y2 rr) hz' fun t' k=>(I.tok _).ep (rj t')
    ·rw [hv] at v
     obtain⟨a,its,rfl,e,rr,_⟩:=I.tupP v;exact join_tuple (items:=its) e (lV y2 rr) hz' fun t' k=>(I.tok _).ep (rj t')
   cases ev:vw L t with
   | str z=>simp only [ev] at h;cases h
   | aO z=>simp only [ev] at h;cases h
   | lst LG=>simp only [ev] at h y1;cases y1;exact fin h (.inl ev)
   | tup LG=>simp only [ev] at h y1;cases y1;exact fin h (.inr ev)
   | _=>simp only [ev] at y1;cases y1
  ·cases h
 ·cases h
theorem sN {P:Pp} {w:Qn} {A:Pm} {E:OE->OH->Prop} {l b:Pf} {x y:Array OE} {n n2:Nat} {Q:OE->OH->Prop} (hl:s.heap.get? l=some { cls:=.type "list",data:=.seq x n }) (hb:s.heap.get? b=some { cls:=.type "list",data:=.seq y n2 }) (hz:x.size+y.size<=O6)
  (h:Q (.ref l) { s with heap:=s.heap.update l (Qx fun z=>z++y) }):O3 (model P w) A (inplaceOp .Add (.ref l) (.ref b)) Q E s:=by
 have hT:s.TypeIs (.ref l) "list":=⟨_,hl,rfl⟩;have q:=UG.lookup
 have f1:fillsInplaceSlot (.type "list") "add" (Operator.Add == .Add)=pure false:=by
  unfold fillsInplaceSlot;show(typeLookup (.type "list") (dunderI "add") >>= fun fi=>pure (fi.isSome && !isSeqSlot fi))=pure false
  rw [q];rfl
 have f2:seqSlot? (.type "list") (dunderI "add")=pure (some (.builtin "list.__iadd__")):=by
  unfold seqSlot?;rw [q];rfl
 unfold inplaceOp;refine wpAny_holding (OB (wpAny_typeOf hT (OB (wpAny_of_eq f1 ?_))));rw [if_neg Qo];refine OB (wpAny_binaryOp1_none (nm:="add") hT ⟨_,hb,rfl⟩ noFill_list_add ?_);refine OB (wpAny_of_eq f2 (OB (wpAny_rule ?_)));have z1:¬(!x.isEmpty && T6 (x.size+y.size))=true:=by
  have:T6 (x.size+y.size)=false:=decide_eq_false (by omega);rw [this,SR];exact Qo
 exact call_meets UG hT PySem.F.entry_list_iadd (PySem.F.args_list_iadd_2 _ _) (PySem.AutoSeq1.list___iadd___list_list_0 l x n b y n2 z1 (by omega) (by omega)) ⟨hl,hb,h⟩
theorem BB {op:Operator}:xx X (inplaceOp op) (ag op):=fun I rx ry h=>by
 unfold ag at h;split at h
 ·obtain⟨_,rfl⟩:=rx.iI;obtain⟨_,rfl⟩:=ry.iI;cases h;exact iadd_int ((I.tok _).ep (.int _ _))
 ·obtain⟨_,rfl⟩:=rx.iI;obtain⟨_,rfl⟩:=ry.iI;cases h;exact isub_int ((I.tok _).ep (.int _ _))
 ·split at h
  ·rename_i n y xs ys ea ev
   obtain⟨hz,h⟩:=ao h;cases h;obtain⟨p,vy⟩:=I.view ry;rw [ev] at vy;obtain⟨b,i2,n2,rfl,e2,r2,z2⟩:=I.lst vy;obtain⟨a,its,cnt,rfl,e,rr,hl,_⟩:=I.qW rx ea;have l1:=OX rr
   have l2:=OX r2;refine sN e e2 (by simp at l1 l2;have:xs.length+ys.length<=O6:=hz;omega) ?_;obtain⟨g',l,J,_⟩:=I.ye (t':=_) (f:=fun z=>z++i2) ea rx e (by simpa using rr.app r2) (by simpa using (show xs.length+ys.length<=O6 from hz));exact⟨g',l,J,rx.le l⟩
  ·cases h
 ·cases h
end
instance LH:DecidableEq T:=fun a b=>P8 _
mutual
noncomputable def dr:T->Nat
 | .tup xs=>tU xs+1
 | _=>1
noncomputable def tU:List T->Nat
 | []=>0
 | x::xs=>dr x+tU xs
end
inductive bH (h:Heap):T->OE->Prop
 | int (i t):bH h (.int i) (.int i t)
 | bl (b):bH h (.bl b) (.bool b)
 | str (s t):bH h (.str s) (.str ⟨s.toArray⟩ t)
 | tup {a o its n xs} (ho:h.get? a=some o) (hc:o.cls=.type "tuple") (hd:o.data=.seq its n) (hl:xs.length=its.size) (hi:∀(i:Nat) x v,xs[i]?=some x->its[i]?=some v->bH h x v):bH h (.tup xs) (.ref a)
section
variable {X:Cx} {pins:ar} {φ:Fr} {g:G} {L L':Live} {s:OH} {h h':Heap} {xs ys:List T} {t t2:T} {u v:OE} {n:Nat} {a d:Pf} {P:Pp} {w:Qn} {A:Pm} {E:OE->OH->Prop}
theorem HQ {t:T} (h:kh 0 t=true):False:=by cases t <;> cases h
theorem uH (hk:xs.all (kh n)=true) {i:Nat} {x:T} (e:xs[i]?=some x):kh n x=true:=OD.mp hk x (PH e)
theorem jl:∀(n:Nat) {t:T},kd n t=true->kh n t=true
 | 0,t,h=>by cases t <;> cases h
 | n+1,t,h=>by
  cases t with
  | tup xs=>exact OD.mpr fun x hx=>jl n (OD.mp h x hx)
  | bl b=>cases h
  | _=>exact h
theorem Hi {t:T} (h:kd 0 t=true):False:=by cases t <;> cases h
theorem gW (hk:xs.all (kd n)=true) {i:Nat} {x:T} (e:xs[i]?=some x):kd n x=true:=OD.mp hk x (PH e)
theorem Inv.HR (I:Inv X pins φ g L s):∀(n:Nat) {t:T} {u:OE},kh n t=true->RT g none t u->bH s.heap t u
 | 0,t,_,h,_=>(HQ h).elim
 | n+1,t,u,h,r=>by
  cases r with
  | int i t=>exact .int i t
  | bl b=>exact .bl b
  | str z t hz=>exact .str z t
  | tup hk hc hd hz hl hi=>exact .tup (I.kn hk) hc.1 hd hl fun i x v e1 e2=>I.HR n (uH h e1) (hi i x v e1 e2)
  | _=>cases h
theorem Inv.DK (I:Inv X pins φ g L s) (n:Nat) {t:T} {u:OE} (h:kd n t=true) (r:RT g none t u):bH s.heap t u:=I.HR n (jl n h) r
theorem bH.same (k1:bH h t u):∀{t2:T},bH h t2 u->t=t2:=by
 induction k1 with
 | int i t=>intro t2 k;cases k;rfl
 | bl b=>intro t2 k;cases k;rfl
 | str z t =>
  intro t2 k;generalize hv:RM ⟨z.toArray⟩ t=v at k;cases k <;> cases hv;rfl
 | tup ho hc hd hl hi ih =>
  rename_i a o its nn xs;intro t2 k;cases k with
  | tup ho' hc' hd' hl' hi' =>
   rw [ho] at ho';cases ho';rw [hd] at hd';cases hd';congr 1;refine Qe (by omega) fun i h1 h2=>?_
   have e:=OO (xs:=its) (i:=i) (by omega);exact ih i _ _ (Ge9 h1) e (hi' i _ _ (Ge9 h2) e)
theorem bH.keeps {o:Obj} {es:Array DictEntry} {ep:Nat} (k:bH h t u) (ho:h.get? d=some o) (hd:o.data=.dict es ep) (hs:Rd d h h'):bH h' t u:=by
 induction k with
 | int i t=>exact .int i t
 | bl b=>exact .bl b
 | str z t=>exact .str z t
 | tup ho' hc hd' hl hi ih =>
  refine .tup ((hs.2 _ fun e=>?_).trans ho') hc hd' hl ih;rw [e,ho] at ho';cases ho';rw [hd] at hd';cases hd'
theorem qX:∀xs:List T,xI w xs=xs.map (hT w)
 | []=>by rw [xI];rfl
 | x::xs=>by rw [xI,qX xs];rfl
theorem nB:∀(xs:List T) (i:Nat) (x:T),xs[i]?=some x->tU (xs.take (i+1))=tU (xs.take i)+dr x
 | x::xs,0,y,h=>by cases h;simp [tU]
 | x::xs,i+1,y,h=>by
  rw [Vi,Vi,tU,tU,nB xs i y (by simpa using h)];omega
theorem sO {b:Bool} {Q:Int->OH->Prop} (h:Q (hashInt (if b=true then 1 else 0)) { s with toks:=s.toks+1 }):O3 (model P w) A (pyHash (.bool b)) Q E s:=by
 have hr:=rawHash_range (if b=true then 1 else 0);have hT:s.TypeIs (.bool b) "bool":=PySem.typeIs_bool s b
 unfold pyHash;refine OB ?_;rw [cRoomFor,if_neg (show ¬ ([Value.bool b].any Value.onHeap=true) from Qo)];refine OC (OB (wpAny_specialOf hT RJ.lookup ?_));show O3 _ _ (if (some (Tc "int.__hash__") == some P7)=true then _ else _) Q E s
 rw [if_neg (by rw [beq_builtin_none];exact Qo)];refine OB (wpAny_specialOf hT RJ.lookup ?_);show O3 _ _ (callSpecialIfBoundUnlessNone? (.bool b) "__hash__" _ >>= _) Q E s
 refine OB (wpAny_callSpecialIfBoundUnlessNone?_slot hT RJ
  (wpAny_call_entry RJ hT entry_int_hash
   (show O3 _ _ (do PySem.ret (<- mkInt (rawHash (if b=true then 1 else 0)))) _ _ s from wpAny_ret_mkInt ?_) (args_int_hash _)))
 show O3 _ _ (if (decide (-(2:Int) ^ 63<=rawHash (if b=true then 1 else 0)) && decide (rawHash (if b=true then 1 else 0)<2 ^ 63))=true then _ else _) Q E _;rw [if_pos (by rw [decide_eq_true hr.1,decide_eq_true hr.2];rfl)];exact OC h
theorem bH.hash:∀(n:Nat) {A:Pm} {s:OH} {t:T} {u:OE} {Q:Int->OH->Prop},kh n t=true->A.units+n<cLine->bH s.heap t u->Q (hT w t) { s with toks:=s.toks+dr t }->O3 (model P w) A (pyHash u) Q E s
 | 0,_,_,t,_,_,hk,_,_,_=>(HQ hk).elim
 | n+1,A,s,t,u,Q,hk,hu,k,h=>by
  cases k with
  | bl b=>rw [hT,dr] at h;exact sO h;all_goals (intro _ z;cases z)
  | int i t=>rw [hT,dr] at h;exact wpAny_pyHash_int h;all_goals (intro _ z;cases z)
  | str z t=>rw [hT,dr] at h;exact wpAny_pyHash_str h;all_goals (intro _ z;cases z)
  | tup ho hc hd hl hi =>
   rename_i a o its nn xs;have hT':s.TypeIs (.ref a) "tuple":=⟨o,ho,hc⟩
   unfold pyHash
   first|unfold pyHashByItsType|skip
   first|refine OB (wpAny_cRoomFor_or (.inr (by omega)) ?_)|skip
   refine OB (wpAny_specialOf hT' RK.lookup ?_);show O3 _ _ (if (some (Tc "tuple.__hash__") == some P7)=true then _ else _) Q E s
   rw [if_neg (by rw [beq_builtin_none];exact Qo)];refine OB (wpAny_specialOf hT' RK.lookup ?_);show O3 _ _ (callSpecialIfBoundUnlessNone? (.ref a) "__hash__" _ >>= _) Q E s
   refine OB (wpAny_callSpecialIfBoundUnlessNone?_slot hT' RK (wpAny_call_entry RK hT' F.entry_tuple_hash ?_ (F.args_tuple_hash_1 _)));show O3 _ _ (RX (.ref a) >>= _) _ _ s
   refine OB (wpAny_tupleItemsOf ho hd ?_);refine OB ?_;rw [<- Si];refine wpAny_forIn_list _ (fun rest (b:Array Int) s'=>∃i,i<=xs.length/\rest=its.toList.drop i/\b.toList=(xs.take i).map (hT w)/\s'={ s with toks:=s.toks+tU (xs.take i) }) _ ?_ ?_ _ _ ⟨0,Pg _,rfl,by simp,by simp [tU]⟩
   ·rintro v rest b s' ⟨i,sP,hr,hb,rfl⟩
    have bT:i<its.size:=by
     rcases TN i its.size with z|z
     ·exact z
     ·rw [List.drop_eq_nil_of_le (by simpa using z)] at hr;cases hr
    rw [PV (by simpa using bT)] at hr;injection hr with e1 e2;have ex:=Ge9 (l:=xs) (i:=i) (by omega)
    have kv:bH s.heap xs[i] v:=hi i _ v ex (by rw [e1];simp [bT]);refine OB (bH.hash n (s:={ s with toks:=s.toks+tU (xs.take i) }) (uH hk ex) (by show A.units+1+n<cLine;omega) kv ?_);have fin:∃j,j<=xs.length/\rest=its.toList.drop j/\(b.push (hT w xs[i])).toList=(xs.take j).map (hT w)/\({ s with toks:=s.toks+tU (xs.take i)+dr xs[i] }:OH)={ s with toks:=s.toks+tU (xs.take j) } :=
     ⟨i+1,by omega,e2,by rw [List.take_succ,ex,Pe,SH,hb];rfl,by rw [nB xs i _ ex,QW]⟩
    first
     | exact OC fin
     | exact OB (OC (OC fin))
   ·rintro b s' ⟨i,sP,hr,hb,rfl⟩
    have Et:its.size<=i:=by
     have:=congrArg QB hr;rw [PN,PY] at this;simp at this;omega
    rw [Pk (by omega)] at hb;show O3 _ _ (retInt (R1 b.toList)) _ _ _
    rw [hb,Pk (show xs.length<=i by omega)];refine wpAny_ret_mkInt ?_;rw [hT,qX,dr] at h;generalize R1 (xs.map (hT w))=g at h;show O3 _ _ (if (decide (-(2:Int) ^ 63<=g) && decide (g<2 ^ 63))=true then _ else _) Q E _
    unfold reduceHash at h;by_cases hr:(decide (-(2:Int) ^ 63<=g) && decide (g<2 ^ 63))=true
    ·rw [if_pos hr]
     rw [if_pos hr] at h;exact OC (by simpa [QW] using h)
    ·rw [if_neg hr]
     rw [if_neg hr] at h;exact OB (wpAny_rule (OC (by simpa [QW] using h)))
theorem bH.quiet:∀(n m:Nat) {s:OH} {t:T} {u:OE},kh n t=true->n<=m->bH s.heap t u->O3 (model P w) A (eqIsQuiet m u) (fun b s'=>b=true/\s'=s) E s
 | 0,_,_,t,_,hk,_,_=>(HQ hk).elim
 | n+1,m,s,t,u,hk,hm,k=>by
  cases k with
  | bl b=>cases m with
   | zero=>omega
   | succ m=>exact OC ⟨rfl,rfl⟩
  | int i t=>cases m with
   | zero=>omega
   | succ m=>exact OC ⟨rfl,rfl⟩
  | str z t=>cases m with
   | zero=>omega
   | succ m=>exact OC ⟨rfl,rfl⟩
  | tup ho hc hd hl hi =>
   rename_i a o its nn xs;have hT':s.TypeIs (.ref a) "tuple":=⟨o,ho,hc⟩
   obtain⟨m,rfl⟩:∃k,m=k+1:=⟨m - 1,by omega⟩;unfold eqIsQuiet;refine OB (wpAny_specialOf hT' F.slot_tuple_eq.lookup ?_);show O3 _ _ (isInstance (.ref a) (.type "tuple") >>= _) _ _ s
   refine OB (wpAny_isInstance hT' isSubtype_tuple_tuple ?_);simp only [RB,OQ,if_false];refine OB (wpAny_seqItems ho hd ?_);refine OB ?_;show O3 _ _ (forIn its _ _) _ _ s
   rw [<- Si];refine wpAny_forIn_list _ (fun rest r s'=>r.1=none/\s'=s/\∀v∈rest,v∈its) _ ?_ ?_ _ _ ⟨rfl,rfl,fun v hv=>by simpa using hv⟩
   ·rintro v rest r s' ⟨hr,rfl,hall⟩
    obtain⟨i,sP,rfl⟩:=Rp (hall v OI);have ex:=Ge9 (l:=xs) (i:=i) (by omega)
    refine OB (wpAny_mono (bH.quiet n m (uH hk ex) (by omega) (hi i _ _ ex (OO sP))) (fun b tV hb=>?_) fun _ _ e=>e);obtain⟨rfl,rfl⟩:=hb;simp only [RB,OQ,if_false];exact OC ⟨rfl,rfl,fun u ip=>hall u (OG _ ip)⟩
   ·rintro⟨r1,r2⟩ s' ⟨hr,rfl,_⟩
    simp only at hr;subst hr;exact OC ⟨rfl,rfl⟩
theorem qY:∀xs ys:List T,iO (fun a b=>decide (a=b)) xs ys=decide (xs=ys)
 | [],[]=>by simp [iO]
 | [],_::_=>by simp [iO]
 | _::_,[]=>by simp [iO]
 | x::xs,y::ys=>by rw [iO,qY xs ys];simp [Bool.decide_and]
open SeqAt in
theorem bH.eq:∀(n:Nat) {A:Pm} {a b:T} {u v:OE},kd n a=true->kd n b=true->A.units+n<cLine->bH s.heap a u->bH s.heap b v->EqAt A s u v (decide (a=b))
 | 0,_,a,_,_,_,h,_,_,_,_=>(Hi h).elim
 | n+1,A,a,b,u,v,ha,hb,hu,ka,kb=>by
  have ip:A.units<cLine:=by omega
  have sm:u=v->decide (a=b)=true:=fun e=>decide_eq_true (ka.same (by rw [e];exact kb))
  cases ka with
  | bl=>cases ha
  | int i t =>
   cases kb with
   | bl=>cases hb
   | int j t2=>rw [show decide (T.int i=T.int j)=(i == j) by rw [QC];simp];exact .int_int _ _ _ _
   | str=>rw [decide_eq_false (by intro e;cases e)];exact .int_str _ _ _ _
   | tup ho hc hd hl hi=>rw [decide_eq_false (by intro e;cases e)];exact .int_tuple _ _ ⟨_,ho,hc,_,hd⟩ ip
  | str z t =>
   cases kb with
   | bl=>cases hb
   | int=>rw [decide_eq_false (by intro e;cases e)];exact .str_int _ _ _ _
   | str z2 t2=>rw [show decide (T.str z=T.str z2)=(z == z2) by rw [QC];simp,<- str_beq];exact .str_str _ _ _ _
   | tup ho hc hd hl hi=>rw [decide_eq_false (by intro e;cases e)];exact .str_tuple _ _ ⟨_,ho,hc,_,hd⟩ ip
  | tup ho hc hd hl hi =>
   have T1:s.heap.IsTuple _ _:=⟨_,ho,hc,_,hd⟩;cases kb with
   | bl=>cases hb
   | int=>rw [decide_eq_false (by intro e;cases e)];exact .tuple_int _ _ T1 ip
   | str=>rw [decide_eq_false (by intro e;cases e)];exact .tuple_str _ _ T1 ip
   | tup ho' hc' hd' hl' hi' =>
    rename_i a1 o1 i1 n1 x1 a2 o2 i2 n2 x2;have:=RcAt.tuples (e:=fun j=>decide (x1.getD j .bK=x2.getD j .bK)) T1 ⟨_,ho',hc',_,hd'⟩ ip fun j j1 j2 =>
     bH.eq n (gW ha (getD_at (by omega))) (gW hb (getD_at (by omega))) (by show A.units+1+n<cLine;omega) (hi j _ _ (getD_at (by omega)) (OO j1)) (hi' j _ _ (getD_at (by omega)) (OO j2))
    rw [<- hl,<- hl',d9 (f:=fun a b=>decide (a=b)),qY] at this;rw [show decide (T.tup x1=T.tup x2)=decide (x1=x2) by rw [QC];simp];exact(both this fun e=>by have:=sm (by rw [e]);simpa using this).2
def zS (P:Pp) (w:Qn):HeapKind P w T where
 is:=fun h k a=>bH h k (.ref a)/\kd 7 k=true
 hash:=hT w
 draws:=dr
 room:=fun A=>A.units+8<cLine
 inj:=fun a b=>a.1.same b.1
 keeps:=fun k ho hd hs=>⟨k.1.keeps ho hd hs,k.2⟩
 pyHash:=fun hu k h=>bH.hash 7 (jl 7 k.2) (by omega) k.1 h
 eqBool:=fun hu a b h=>bH.eq 7 a.2 b.2 (by omega) a.1 b.1 _ _ _ _ h
 quiet:=fun k h=>wpAny_mono (bH.quiet 7 8 (jl 7 k.2) (by omega) k.1) (fun b s' hb=>by obtain⟨rfl,rfl⟩:=hb;exact h) fun _ _ e=>e
end
end M
namespace M
open PySem PySem.Spec PyProof.Rows
noncomputable def yg:T->OE->Bool
 | .int i,.int j _=>i == j
 | .str z,.str x _=>x == ⟨z.toArray⟩
 | _,_=>false
theorem dX {k:T} {v:OE} (h:yg k v=true):(∃i t,k=.int i/\v=.int i t)\/∃z t,k=.str z/\v=.str ⟨z.toArray⟩ t:=by
 unfold yg at h;split at h
 ·exact .inl ⟨_,_,rfl,by rw [eq_of_beq h]⟩
 ·exact .inr ⟨_,_,rfl,by rw [eq_of_beq h]⟩
 ·cases h
theorem toA {z z':Cs} (e:(⟨z.toArray⟩:Str)=⟨z'.toArray⟩):z=z':=by simpa using congrArg (fun x:Str=>x.cps.toList) e
def gY (P:Pp) (w:Qn):KeyKind P w T where
 is:=yg
 hash:=hT w
 inj:=fun v a b ha hb=>by
  rcases dX ha with⟨i,t,rfl,rfl⟩|⟨z,t,rfl,rfl⟩
  ·rcases dX hb with⟨j,t',rfl,e⟩|⟨z',t',rfl,e⟩
   ·injection e with e1 _;rw [e1]
   ·cases e
  ·rcases dX hb with⟨j,t',rfl,e⟩|⟨z',t',rfl,e⟩
   ·cases e
   ·injection e with e1 _;rw [toA e1]
 byValue:=fun k v h=>by rcases dX h with⟨i,t,rfl,rfl⟩|⟨z,t,rfl,rfl⟩ <;> rfl
 pyHash:=fun h q=>by
  rcases dX h with⟨i,t,rfl,rfl⟩|⟨z,t,rfl,rfl⟩
  ·rw [hT] at q;exact wpAny_pyHash_int q
  ·rw [hT] at q;exact wpAny_pyHash_str q
 eqBool:=fun {A E s a b u v Q} ha hb q=>by
  rcases dX ha with⟨i,t,rfl,rfl⟩|⟨z,t,rfl,rfl⟩
  ·rcases dX hb with⟨j,t',rfl,rfl⟩|⟨z',t',rfl,rfl⟩
   ·rw [show decide (T.int i=T.int j)=(i == j) by rw [QC];simp] at q;exact wpAny_eqBool_int q
   ·rw [decide_eq_false (by intro e;cases e)] at q;exact SeqAt.EqAt.int_str _ _ _ _ _ _ _ _ q
  ·rcases dX hb with⟨j,t',rfl,rfl⟩|⟨z',t',rfl,rfl⟩
   ·rw [decide_eq_false (by intro e;cases e)] at q;exact SeqAt.EqAt.str_int _ _ _ _ _ _ _ _ q
   ·rw [show decide (T.str z=T.str z')=(z == z') by rw [QC];simp,<- str_beq] at q;exact SeqAt.EqAt.str_str _ _ _ _ _ _ _ _ q
 «strs»:=fun k x t v h=>by
  rcases dX h with⟨i,t',rfl,e⟩|⟨z,t',rfl,e⟩
  ·cases e
  ·injection e with e1 _
   subst e1;cases v <;> rfl
def pl (ks:List (T × T)) (y:T):Option Nat:=ks.findIdx? fun p=>decide (p.1=y)
section
variable {X:Cx} {pins:ar} {φ:Fr} {g:G} {L L':Live} {s:OH} {ks:List (T × T)} {t y x:T} {u v:OE} {n:Nat} {a d:Pf} {A:Pm} {q:Option (Pf × Pf)} {E:OE->OH->Prop}
theorem lW (h:nh t=true) (r:RT g none t u):yg t u=true:=by
 cases r <;> first|cases h|skip
 ·exact beq_self_eq_true _
 ·exact beq_self_eq_true _
theorem qZ (I:Inv X pins φ g L s) (h:AI t=true) (r:RT g none t u):∃a,u=.ref a/\bH s.heap t u/\kd 7 t=true:=by
 cases t <;> first|cases h|skip
 have k:kd 7 (.tup _)=true:=h;have z:=I.DK 7 k r
 cases z with
 | tup ho hc hd hl hi=>exact⟨_,rfl,.tup ho hc hd hl hi,k⟩
theorem Eu {P:Pp} {w:Qn} {b:Pf} {o:Obj} {ep:Nat} {hs:Int} {Q:Option Nat->OH->Prop} (ho:s.heap.get? a=some o) (hd:o.data=.dict #[] ep) (h:Q none s):O3 (model P w) A (dictFind a (.ref b) hs) Q E s:=by
 unfold dictFind
 try with_reducible refine wpAny_holding ?_
 refine OB (wpAny_dictEntries ho hd ?_);dsimp only;rw [if_neg (by simp [carriedByValue]),if_neg (by simp)];have e0:placesWithHash (#[]:Array DictEntry).size (fun i=>(#[]:Array DictEntry)[i]?.map (·.hash)) hs=[]:=by unfold placesWithHash;simp
 rw [e0];exact OB (OC (OB (OC (OC h))))
structure bj (X:Cx) (g:G) (s:OH) (ks:List (T × T)) (a:Pf) (o:Obj) (es:Array DictEntry) (ep:Nat):Prop where
 ho:s.heap.get? a=some o
 hx:o.ExactDict
 hd:o.data=.dict es ep
 hz:ks.length<=O6
 hl:ks.length=es.size
 hn:(ks.map (·.1)).Nodup
 hm:eF (ks.map (·.1))=true
 hs:(a == sysModules)=false
 hh:∀(i:Nat) x e,ks[i]?=some x->es[i]?=some e->e.hash=hT X.w x.1
 h1:∀(i:Nat) x e,ks[i]?=some x->es[i]?=some e->RT g none x.1 e.key
 h2:∀(i:Nat) x e,ks[i]?=some x->es[i]?=some e->RT g none x.2 e.val
theorem Inv.aO (I:Inv X pins φ g L s) (r:RT g q (.aO ks) u):∃a o es ep,u=.ref a/\qG q a a/\g.kn q.isNone a o/\bj X g s ks a o es ep:=by
 cases r with
 | aO ht hk hx hd hz hl hn hs hh h1 h2=>exact⟨_,_,_,_,rfl,ht,hk,I.kn hk,hx,hd,hz,hl,hn.1,hn.2,hs,by rw [<- I.gw];exact hh,h1,h2⟩
theorem bj.at (D:bj X g s ks a o es ep) {i:Nat} {p:T × T} (h:ks[i]?=some p):∃e,es[i]?=some e:=by
 have:=(OY.mp h).1;exact⟨_,OO (by rw [<- D.hl];exact this)⟩
theorem bj.find (D:bj X g s ks a o es ep) (I:Inv X pins φ g L s) (hu:A.units+8<cLine) (hf:dh ks y) (ry:RT g none y v) :
  ∃n,(∀(Q:Int->OH->Prop) (E:OE->OH->Prop),Q (hT X.w y) { s with toks:=s.toks+n }->O3 (model X.prog X.w) A (pyHash v) Q E s) /\
   ∀(tk:Nat) (Q:Option Nat->OH->Prop) (E:OE->OH->Prop),Q (pl ks y) { s with toks:=tk }->O3 (model X.prog X.w) A (dictFind a v (hT X.w y)) Q E { s with toks:=tk }:=by
 unfold dh eF at hf;rw [Qh,Qh] at hf;rcases hf with(hf|hf)|hf
 ·rw [PK,ON] at hf
  have hv:=lW hf.1 ry;have sc:∀(i:Nat) p e,ks[i]?=some p->es[i]?=some e->yg p.1 e.key=true:=fun i p e e1 e2 =>
   lW (OD.mp hf.2 _ (O9 (PH e1))) (D.h1 i p e e1 e2)
  refine⟨1,fun Q E hq=>(gY X.prog X.w).pyHash hv hq,fun tk Q E hq=>?_⟩;refine wpAny_dictFind_of (knd:=gY X.prog X.w) (s:={ s with toks:=tk }) hv D.ho D.hd (fun e he=>?_) ?_
  ·obtain⟨i,hi,rfl⟩:=Rp he
   have e1:=Ge9 (l:=ks) (i:=i) (by rw [D.hl];exact hi);exact⟨_,sc i _ _ e1 (OO hi),D.hh i _ _ e1 (OO hi)⟩
  ·have e:(es.findIdx? fun e=>(gY X.prog X.w).is y e.key)=pl ks y:=by
    obtain⟨es⟩:=es;rw [List.findIdx?_toArray];unfold pl;have go:∀(l:List DictEntry) (ks:List (T × T)),ks.length=l.length->(∀(i:Nat) p e,ks[i]?=some p->l[i]?=some e->yg p.1 e.key=true)->(l.findIdx? fun e=>(gY X.prog X.w).is y e.key)=ks.findIdx? fun p=>decide (p.1=y):=fun l=>by
     induction l with
     | nil=>intro ks hl _;cases ks with
      | nil=>rfl
      | cons _ _=>cases hl
     | cons e l ih=>intro ks hl h;cases ks with
      | nil=>cases hl
      | cons p ks =>
       rw [List.findIdx?_cons,List.findIdx?_cons,ih ks (by simpa using hl) (fun i p e e1 e2=>h (i+1) p e (by simpa using e1) (by simpa using e2)),KeyKind.is_eq_decide (knd:=gY X.prog X.w) (h 0 p e rfl rfl) y];rw [show decide (y=p.1)=decide (p.1=y) by rw [QC];simp [eq_comm]]
    exact go es ks (by simpa using D.hl) fun i p e e1 e2=>sc i p e e1 (by simpa using e2)
   rw [e];exact hq
 ·rw [PK,ON] at hf
  obtain⟨b,rfl,kb,db⟩:=qZ I hf.1 ry;refine⟨dr y,fun Q E hq=>(zS X.prog X.w).pyHash hu ⟨kb,db⟩ hq,fun tk Q E hq=>?_⟩;have ex:∃xs:List (T × Pf × OE),xs.length=ks.length/\∀(i:Nat) p e,ks[i]?=some p->es[i]?=some e->∃c,xs[i]?=some (p.1,c,e.val)/\e.key=.ref c/\bH s.heap p.1 (.ref c)/\kd 7 p.1=true:=by
   refine⟨(ks.zip es.toList).map fun z=>(z.1.1,(match z.2.key with|.ref c=>c|_=>0),z.2.val),by simp [D.hl],fun i p e e1 e2=>?_⟩;obtain⟨c,ec,kc,dc⟩:=qZ I (OD.mp hf.2 _ (O9 (PH e1))) (D.h1 i p e e1 e2);refine⟨c,?_,ec,by rw [<- ec];exact kc,dc⟩;have ez:(ks.zip es.toList)[i]?=some (p,e):=List.getElem?_zip_eq_some.mpr ⟨e1,by simpa using e2⟩
   rw [Pb,ez];show some (p.1,(match e.key with|.ref c=>c|_=>0),e.val)=_
   rw [ec]
  obtain⟨xs,Ku,Ew⟩:=ex;have Hj:∀(i:Nat) z,xs[i]?=some z->∃p e,ks[i]?=some p/\es[i]?=some e/\z=(p.1,z.2.1,e.val)/\e.key=.ref z.2.1/\bH s.heap p.1 (.ref z.2.1)/\kd 7 p.1=true:=fun i z hz=>by
   have hi:=(OY.mp hz).1;have e1:=Ge9 (l:=ks) (i:=i) (by omega)
   obtain⟨e,e2⟩:=D.at e1;obtain⟨c,c1,c2,c3,c4⟩:=Ew i _ e e1 e2;rw [hz] at c1;cases c1;exact⟨_,e,e1,e2,rfl,c2,c3,c4⟩
  have keys:xs.map (·.1)=ks.map (·.1):=Qe (by simp [Ku]) fun i h1 h2=>by
   rw [Ra,Ra];have hi:i<xs.length:=by simpa using h1
   obtain⟨p,e,e1,_,e3,_⟩:=Hj i _ (Ge9 hi);have:=(OY.mp e1).2
   rw [e3,<- this]
  have LI:∀(j:Nat) (p:Pf × OE),xs[j]?=some (y,p)->pl ks y=some j:=fun j p hj=>by
   obtain⟨p',e,e1,_,e3,_⟩:=Hj j _ hj;have ey:p'.1=y:=by injection e3 with e4;exact e4.symm
   obtain⟨Ex,Ey⟩:=OY.mp e1;refine PU.mpr ⟨Ex,by rw [Ey];exact decide_eq_true ey,fun i hi=>?_⟩;have ne:¬ ks[i].1=y:=fun z=>by
    have h1:(ks.map (·.1))[i]?=some y:=by rw [Pb,Ge9 (by omega)];exact congrArg some z
    have h2:(ks.map (·.1))[j]?=some y:=by rw [Pb,e1];exact congrArg some ey
    have:=(List.getElem?_inj (by simp;omega) D.hn).mp (h1.trans h2.symm);omega
   simpa using ne
  refine wpAny_dictFind_heap (knd:=zS X.prog X.w) (xs:=xs) (s:={ s with toks:=tk }) hu ⟨kb,db⟩ D.ho D.hd ?_ (fun z hz=>?_) (by rw [keys];exact D.hn) (fun gq=>?_) fun j p hj=>?_
  ·refine Qe (by simp [Ku,D.hl]) fun i h1 h2=>?_
   have hi:i<xs.length:=by simpa using h2
   obtain⟨p,e,e1,e2,e3,e4,_⟩:=Hj i _ (Ge9 hi);rw [Ra];have Ez:es.toList[i]=e:=by
    have:=(Tw.mp e2).2;simpa using this
   rw [Ez];have EA:=D.hh i p e e1 e2
   rw [e3];show e=⟨hT X.w p.1,.ref xs[i].2.1,e.val⟩
   rw [<- e4,<- EA]
  ·obtain⟨i,hi,rfl⟩:=RA hz
   obtain⟨p,e,_,_,e3,_,e5,e6⟩:=Hj i _ (Ge9 hi);rw [e3];exact⟨e5,e6⟩
  ·have:pl ks y=none:=by
    refine R4.mpr fun p hp=>?_
    obtain⟨i,hi,rfl⟩:=RA hp;obtain⟨e,e2⟩:=D.at (Ge9 hi);obtain⟨c,c1,_⟩:=Ew i _ e (Ge9 hi) e2;refine decide_eq_false fun z=>gq i (c,e.val) ?_
    rw [c1,z]
   rw [this] at hq;exact hq
  ·rw [LI j p hj] at hq;exact hq
 ·rw [ON,PK,ON] at hf
  obtain rfl:ks=[]:=by simpa using hf.1
  obtain rfl:es = #[]:=Sw.mp D.hl.symm;cases y with
  | tup xs =>
   have k:kh 7 (.tup xs)=true:=hf.2.1;have z:=I.HR 7 k ry
   obtain⟨b,o,its,n,rfl,_⟩:=ry.tI.2;exact⟨dr (.tup xs),fun Q E hq=>bH.hash 7 k (by omega) z hq,fun tk Q E hq=>Eu (s:={ s with toks:=tk }) D.ho D.hd hq⟩
  | _=>cases hf.2.1
end
section
variable {X:Cx} {pins:ar} {φ:Fr} {g:G} {L L':Live} {s:OH} {ks:List (T × T)} {t y x w:T} {u v:OE} {n:Nat} {a d:Pf} {A:Pm} {q:Option (Pf × Pf)} {E:OE->OH->Prop} {o:Obj} {es:Array DictEntry} {ep:Nat}
theorem lX {i:Nat} (h:pl ks y=some i):∃p,ks[i]?=some p/\p.1=y/\di ks y=some p.2:=by
 obtain⟨h1,h2,h3⟩:=PU.mp h;refine⟨ks[i],Ge9 h1,of_decide_eq_true h2,?_⟩;have:(ks.find? fun p=>decide (p.1=y))=some ks[i]:=by
  rw [List.find?_eq_some_iff_getElem];exact⟨h2,i,h1,rfl,fun j hj=>by simpa using h3 j hj⟩
 unfold di;rw [show(ks.find? fun p=>@decide (p.1=y) (P8 _))=some ks[i] from this];rfl
theorem lY (h:pl ks y=none):di ks y=none/\∀p∈ks,p.1≠y:=by
 have h':=R4.mp h;have h2:∀p∈ks,p.1≠y:=fun p hp=>of_decide_eq_false (h' p hp)
 refine⟨?_,h2⟩;have:(ks.find? fun p=>decide (p.1=y))=none:=Qg.mpr fun p hp=>by simpa using h2 p hp
 unfold di;rw [show(ks.find? fun p=>@decide (p.1=y) (P8 _))=none from this];rfl
noncomputable def EB (g:G) (o:Option OE) (x:Option T):Prop:=(o=none/\x=none)\/∃u t,o=some u/\x=some t/\RT g none t u
theorem bj.val (D:bj X g s ks a o es ep):EB g ((pl ks y).bind fun i=>es[i]?.map (·.val)) (di ks y):=by
 cases e:pl ks y with
 | none=>exact .inl ⟨rfl,(lY e).1⟩
 | some i =>
  obtain⟨p,p1,p2,p3⟩:=lX e;obtain⟨d,d1⟩:=D.at p1;exact .inr ⟨d.val,p.2,by rw [Rb,d1];rfl,p3,D.h2 i p d p1 d1⟩
theorem bj.get (D:bj X g s ks a o es ep) (I:Inv X pins φ g L s) (hu:A.units+8<cLine) (hf:dh ks y) (ry:RT g none y v) {Q:Option OE->OH->Prop} (h:∀tk u,EB g u (di ks y)->Q u { s with toks:=tk }):O3 (model X.prog X.w) A (dictGet a v) Q E s:=by
 obtain⟨n,h1,h2⟩:=D.find I hu hf ry;unfold dictGet
 try with_reducible refine wpAny_holding ?_
 refine OB (h1 _ _ (OB (h2 _ _ _ ?_)));have z:=D.val (y:=y)
 cases e:pl ks y with
 | none=>rw [e] at z;exact OC (h _ _ z)
 | some i=>rw [e] at z;exact OB (wpAny_dictEntries (s:={ s with toks:=s.toks+n }) D.ho D.hd (OC (h _ _ z)))
theorem bj.typeIs (D:bj X g s ks a o es ep):s.TypeIs (.ref a) "dict":=⟨o,D.ho,D.hx.1⟩
theorem bj.in (D:bj X g s ks a o es ep) (I:Inv X pins φ g L s) (hu:X.A.units+20<cLine) (hf:dh ks y) (ry:RT g none y v):(∀Q:OE->OH->Prop,(∀tk,Q (.bool (di ks y).isSome) { s with toks:=tk })->O3 (model X.prog X.w) X.A (compareOp .In v (.ref a)) Q F0 s) /\
  ∀Q:OE->OH->Prop,(∀tk,Q (.bool (!(di ks y).isSome)) { s with toks:=tk })->O3 (model X.prog X.w) X.A (compareOp .NotIn v (.ref a)) Q F0 s:=by
 have ip:X.A.in1.units+8<cLine:=by show X.A.units+1+8<cLine;omega
 have go:∀Q:Bool->OH->Prop,(∀tk,Q (di ks y).isSome { s with toks:=tk })->O3 (model X.prog X.w) X.A (contains (.ref a) v) Q F0 s:=fun Q h=>by
  unfold contains
  try with_reducible refine wpAny_holding ?_
  refine OB (wpAny_specialOf D.typeIs slot_dict_contains.lookup ?_);show O3 _ _ (if (some (Tc "dict.__contains__") == some P7)=true then _ else _) _ _ s
  rw [if_neg (by rw [beq_builtin_none];exact Qo)];refine OB (wpAny_callSpecialUnlessNone?_slot (name:=Rg "__contains__") D.typeIs slot_dict_contains
   (wpAny_call_entry slot_dict_contains D.typeIs entry_dict_contains ?_ (args_dict_contains _ _)))
  show O3 _ _ (dictGet a v >>= _) _ _ s;refine OB (D.get I ip hf ry fun tk u hu=>?_);rcases hu with⟨rfl,e⟩|⟨u,t,rfl,e,_⟩
  ·show O3 _ _ (Builtin.Dict.pendingKey? a v >>= _) _ _ _
   refine OB (wpAny_pendingKey_other D.hs (OC ⟨_,rfl,wpAny_truthy_bool ?_⟩));have:=h tk;rw [e] at this;exact this
  ·show O3 _ _ (PySem.ret (.bool true)) _ _ _
   refine OC ⟨_,rfl,wpAny_truthy_bool ?_⟩;have:=h tk;rw [e] at this;exact this
 exact⟨fun Q h=>OB (go _ fun tk=>OC (h tk)),fun Q h=>OB (go _ fun tk=>OC (h tk))⟩
theorem bj.item (D:bj X g s ks a o es ep) (I:Inv X pins φ g L s) (hu:X.A.units+20<cLine) (hf:dh ks y) (ry:RT g none y v) (hx:di ks y=some x) {Q:OE->OH->Prop} (h:∀tk u,RT g none x u->Q u { s with toks:=tk }):O3 (model X.prog X.w) X.A (getItem (.ref a) v) Q F0 s:=by
 have ip:X.A.in1.units+8<cLine:=by show X.A.units+1+8<cLine;omega
 unfold getItem
 try with_reducible refine wpAny_holding ?_
 refine OB (wpAny_sequenceKey D.typeIs (by decide) ?_);refine OB (wpAny_callSpecial?_slot (name:=Rg "__getitem__") D.typeIs slot_dict_getitem
  (wpAny_call_entry slot_dict_getitem D.typeIs entry_dict_getitem ?_ (args_dict_getitem _ _)))
 show O3 _ _ (dictGet a v >>= _) _ _ s;refine OB (D.get I ip hf ry fun tk u hu=>?_);rcases hu with⟨rfl,e⟩|⟨u,t,rfl,e,r⟩
 ·rw [hx] at e;cases e
 ·rw [hx] at e;cases e
  exact OC ⟨u,rfl,OC (h tk u r)⟩
theorem uI {ks:List T} (h:eF (y::ks)=true):eF ks=true/\eF (ks++[y])=true:=by
 unfold eF at h ⊢;simp only [PK,Qh,ON,List.all_append,Vw,and_true] at h ⊢;rcases h with(h|h)|h
 ·exact⟨.inl (.inl h.2),.inl (.inl ⟨h.2,h.1⟩)⟩
 ·exact⟨.inl (.inr h.2),.inl (.inr ⟨h.2,h.1⟩)⟩
 ·obtain rfl:ks=[]:=by simpa using h.1
  exact⟨.inl (.inl rfl),.inr ⟨rfl,rfl,h.2.1⟩⟩
theorem fv (h:∀p∈ks,p.1≠y):dput ks y t=ks++[(y,t)]:=by
 unfold dput;rw [if_neg];intro z;obtain⟨p,hp,e⟩:=QT.mp z;exact h p hp (of_decide_eq_true e)
theorem uJ {i:Nat} (hn:(ks.map (·.1)).Nodup) (h:pl ks y=some i):dput ks y t=ks.set i (y,t):=by
 obtain⟨h1,h2,h3⟩:=PU.mp h;unfold dput;rw [if_pos (QT.mpr ⟨_,OV h1,by rw [decide_eq_true (of_decide_eq_true h2)]⟩)];refine Qe (by simp) fun j j1 j2=>?_
 rw [Ra,List.getElem_set];have hj:j<ks.length:=by simpa using j1
 by_cases e:i=j
 ·subst e
  rw [if_pos rfl,if_pos (of_decide_eq_true h2),of_decide_eq_true h2]
 ·rw [if_neg e,if_neg]
  intro z;have hi':(ks.map (·.1))[i]?=some y:=by rw [Pb,Ge9 h1];exact congrArg some (of_decide_eq_true h2)
  have hj':(ks.map (·.1))[j]?=some y:=by rw [Pb,Ge9 hj];exact congrArg some z
  exact e ((List.getElem?_inj (by simpa using h1) hn).mp (hi'.trans hj'.symm))
theorem Inv.EC {p:Pf × Pf} {o':Obj} {eH:Array DictEntry} {D8:Nat} {DL:List (T × T)} {h':Heap} {tk:Nat} (I:Inv X pins φ g L s) (hp:at_ g.α n=some p) (hk:g.H p.1=some (false,o)) (qV:p.2=p.1) (D:bj X g s ks p.1 o es ep) (keep:∀b v,b≠p.1->s.heap.get? b=some v->h'.get? b=some v) (new:h'.get? p.1=some o') (hx:o'.ExactDict) (hd:o'.data=.dict eH D8)
  (hz:DL.length<=O6) (hl:DL.length=eH.size) (hn:(DL.map (·.1)).Nodup) (hm:eF (DL.map (·.1))=true) (hh:∀(i:Nat) x e,DL[i]?=some x->eH[i]?=some e->e.hash=hT X.w x.1/\RT g none x.1 e.key/\RT g none x.2 e.val) :
  ∃g',Le g g'/\Inv X pins φ g' (put L n (.aO DL)) { s with heap:=h',toks:=tk }/\∀b,b≠p.1->g'.H b=g.H b:=by
 have l:=Le.set (o:=o') hk;refine⟨_,l,I.set (t':=tk) hp (.inl rfl) hk keep new ?_,fun b hb=>az hb⟩;have ht:qG (some p) p.1 p.1:=.inr (congrArg some (Prod.ext rfl qV))
 exact .aO ht (.inl ak) hx hd hz hl ⟨hn,hm⟩ D.hs (fun i x e e1 e2=>by show e.hash=hT g.w x.1;rw [I.gw];exact(hh i x e e1 e2).1) (fun i x e e1 e2=>(hh i x e e1 e2).2.1.le l) fun i x e e1 e2=>(hh i x e e1 e2).2.2.le l
theorem Inv.q8 (I:Inv X pins φ g L s) (ru:RT g none (.ref n) u) (hc:at_ L n=some (.aO ks)):∃p o es ep,u=.ref p.1/\at_ g.α n=some p/\p.2=p.1/\g.H p.1=some (false,o)/\bj X g s ks p.1 o es ep:=by
 obtain⟨p,hp,rc⟩:=I.rel.cells n _ hc;cases ru with
 | ref hq =>
  rw [hp] at hq;cases hq;obtain⟨a,o,es,ep,e,ht,hk,D⟩:=I.aO rc;have ea:p.1=a:=by injection e
  subst ea;refine⟨p,o,es,ep,rfl,hp,?_,?_,D⟩
  ·rcases ht with z|z
   ·cases z
   ·exact congrArg Prod.snd (Qq z)
  ·rcases hk with hk|⟨z,_⟩
   ·exact hk
   ·cases z
theorem bj.new {p:Pf × Pf} {tk:Nat} (D:bj X g s ks p.1 o es ep) (I:Inv X pins φ g L s) (hp:at_ g.α n=some p) (qV:p.2=p.1) (hk:g.H p.1=some (false,o)) (hf:dh ks y) (hz:ks.length<O6) (gq:pl ks y=none) (ry:RT g none y v) (rt:RT g none t u) :
  ∃g',Le g g'/\Inv X pins φ g' (put L n (.aO (dput ks y t))) { s with heap:=s.heap.update p.1 (Obj.mapDictKeys (·.push ⟨hT X.w y,v,u⟩)),toks:=tk }/\∀b,b≠p.1->g'.H b=g.H b:=by
 have hne:=(lY gq).2;rw [fv hne];refine I.EC hp hk qV D (fun b v hb hv=>(Po s.heap _ (Qz hb)).trans hv) (Qi _ D.ho (Obj.isFreed_of_dict (U6 D.hd _))) (D.hx.mapDictKeys _) (U6 D.hd _) (by simp;omega) (by simp [D.hl]) ?_ ?_ fun i x e e1 e2=>?_
 ·rw [Pe,Q2]
  refine⟨D.hn,by simp,fun x hx y' hy=>?_⟩;obtain⟨q,hq,rfl⟩:=OT.mp hx;have:y'=y:=by simpa using hy
  rw [this];exact hne q hq
 ·rw [Pe];exact(uI hf).2
 ·rw [List.getElem?_append] at e1
  rw [Tj] at e2;split at e1
  ·rename_i hi
   rw [if_neg (by rw [<- D.hl];exact O8 hi)] at e2;exact⟨D.hh i x e e1 e2,D.h1 i x e e1 e2,D.h2 i x e e1 e2⟩
  ·rename_i hi
   have yh:i=es.size:=by
    have:=(OY.mp e1).1;simp at this;have:=D.hl
    omega
   rw [if_pos yh] at e2;cases e2;have e1':i - ks.length=0:=by have:=D.hl;omega
   rw [e1'] at e1;cases e1;exact⟨rfl,ry,rt⟩
theorem bj.old {p:Pf × Pf} {tk i:Nat} (D:bj X g s ks p.1 o es ep) (I:Inv X pins φ g L s) (hp:at_ g.α n=some p) (qV:p.2=p.1) (hk:g.H p.1=some (false,o)) (hi:pl ks y=some i) (rt:RT g none t u) :
  ∃g',Le g g'/\Inv X pins φ g' (put L n (.aO (dput ks y t))) { s with heap:=s.heap.update p.1 (Obj.mapDict (·.modify i fun e=>{ e with val:=u })),toks:=tk }/\∀b,b≠p.1->g'.H b=g.H b:=by
 rw [uJ D.hn hi];obtain⟨q,q1,q2,_⟩:=lX hi;have keys:(ks.set i (y,t)).map (·.1)=ks.map (·.1):=by
  refine Qe (by simp) fun j h1 h2=>?_
  rw [Ra,Ra,List.getElem_set];by_cases e:i=j
  ·subst e
   rw [if_pos rfl,(OY.mp q1).2,q2]
  ·rw [if_neg e]
 refine I.EC hp hk qV D (fun b v hb hv=>(Po s.heap _ (Qz hb)).trans hv) (Qi _ D.ho (Obj.isFreed_of_dict (Obj.data_mapDict D.hd _))) (D.hx.mapDict _) (Obj.data_mapDict D.hd _) (by simpa using D.hz) (by simp [D.hl]) (by rw [keys];exact D.hn) (by rw [keys];exact D.hm) fun j x e e1 e2=>?_
 rw [Array.getElem?_modify] at e2;rw [List.getElem?_set] at e1;by_cases ej:i=j
 ·subst ej
  rw [if_pos rfl] at e1 e2;obtain⟨e0,f1,f2⟩:=OW.mp e2;have bT:=(OY.mp q1).1
  rw [if_pos bT] at e1;cases e1;subst f2;exact⟨by rw [<- q2];exact D.hh i q e0 q1 f1,by rw [<- q2];exact D.h1 i q e0 q1 f1,rt⟩
 ·rw [if_neg ej] at e1 e2
  exact⟨D.hh j x e e1 e2,D.h1 j x e e1 e2,D.h2 j x e e1 e2⟩
theorem q9 {A:Pm} (I:Inv X pins φ g L s) (hu:A.units+8<cLine) (hc:at_ L n=some (.aO ks)) (rd:RT g none (.ref n) (.ref a)) (ry:RT g none y v) {tv:OE} (rt:RT g none t tv) (hz:ks.length<O6) (hf:dh ks y) :
  O3 (model X.prog X.w) A (dictSet a v tv) (fun _ s'=>(∃g',Le g g'/\Inv X pins φ g' (put L n (.aO (dput ks y t))) s'/\∀b,b≠a->g'.H b=g.H b)/\∀b,b≠a->s'.heap.get? b=s.heap.get? b) E s:=by
 obtain⟨p,o,es,ep,ea,hp,qV,hk,D⟩:=I.q8 rd hc;cases ea;obtain⟨m,h1,h2⟩:=D.find I hu hf ry;unfold dictSet
 try with_reducible refine wpAny_holding ?_
 refine OB (h1 _ _ ?_);unfold dictSetHashed
 try with_reducible refine wpAny_holding ?_
 refine OB (h2 _ _ _ ?_);cases e:pl ks y with
 | none =>
  exact OB (wpAny_rule (wpAny_updateDictKeys (hz:=by have:=D.hl;omega) (s:={ s with toks:=s.toks+m }) D.ho D.hd ⟨D.new I hp qV hk hf hz e ry rt,fun b hb=>Po s.heap _ (Qz hb)⟩))
 | some i =>
  exact OB (wpAny_rule (OB (wpAny_updateDict (s:={ s with toks:=s.toks+m }) D.ho D.hd (wpAny_point ⟨D.old I hp qV hk e rt,fun b hb=>Po s.heap _ (Qz hb)⟩))))
theorem yi (I:Inv X pins φ g L s) (hu:X.A.units+20<cLine) (hc:at_ L n=some (.aO ks)) (rd:RT g none (.ref n) u) (ry:RT g none y v) {tv:OE} (rt:RT g none t tv) (hz:ks.length<O6) (hf:dh ks y) :
  O3 (model X.prog X.w) X.A (setItem u v tv) (fun _ s'=>∃g',Le g g'/\Inv X pins φ g' (put L n (.aO (dput ks y t))) s') F0 s:=by
 have ip:X.A.in1.units+8<cLine:=by show X.A.units+1+8<cLine;omega
 obtain⟨p,o,es,ep,rfl,hp,qV,hk,D⟩:=I.q8 rd hc;unfold setItem
 try with_reducible refine wpAny_holding ?_
 refine OB (wpAny_sequenceKey D.typeIs (by decide) ?_);refine OB (wpAny_callSpecial?_slot (name:=Rg "__setitem__") D.typeIs slot_dict_setitem
  (wpAny_call_entry slot_dict_setitem D.typeIs entry_dict_setitem ?_ (args_dict_setitem _ _ _)))
 show O3 _ _ (Builtin.Dict.notOrdered "__setitem__" ⟨[.ref p.1,v,tv],[]⟩ >>= _) _ _ s;refine OB (wpAny_notOrdered_dict D.typeIs ?_);show O3 _ _ (dictSet p.1 v tv >>= _) _ _ s
 refine OB (wpAny_mono (q9 I ip hc rd ry rt hz hf) (fun _ s' ⟨⟨g',l,J,_⟩,_⟩=>OC ⟨.none,rfl,OC ⟨g',l,J⟩⟩) fun _ _ e=>e)
end
section
variable {P:Pp} {w:Qn} {A:Pm} {E:OE->OH->Prop} {s:OH} {d it:Pf} {o:Obj} {es:Array DictEntry} {ep:Nat}
structure DO (h:Heap) (d:Pf) (o:Obj) (es:Array DictEntry) (ep:Nat):Prop where
 ho:h.get? d=some o
 hx:o.ExactDict
 hd:o.data=.dict es ep
theorem DO.iter (D:DO s.heap d o es ep) (hs:(d == sysModules)=false) {Q:OE->OH->Prop} (hQ:Q (.ref s.heap.objs.size) { s with heap:=s.heap.push { cls:=.type "dict_keyiterator",data:=.fields #[.ref d,.int 0 0,.int es.size 0,.int ep 0] } }):O3 (model P w) A (pyIter (.ref d)) Q E s:=by
 have hT:s.TypeIs (.ref d) "dict":=⟨o,D.ho,D.hx.1⟩;refine wpAny_pyIter_slot hT UH (wpAny_call_entry UH hT PySem.F.entry_dict_iter ?_ (PySem.F.args_dict_iter_1 _));refine OB (OB (wpAny_notOrdered_dict hT (OC ?_)));refine OB (OC (OB ?_));show O3 _ _ (if (d == sysModules)=true then _ else _) _ _ _
 rw [if_neg (by rw [hs];exact Qo)];refine OC (OB (wpAny_dictEntries D.ho D.hd (OB (wpAny_dictEpoch D.ho D.hd ?_))));exact OB (wpAny_newObj_type (OC ⟨_,rfl,"dict_keyiterator",_,⟨_,OM _ rfl,rfl⟩,Q7.lookup,by simpa [rawInt] using hQ⟩))
theorem DO.next (D:DO s.heap d o es ep) (hh:A.handled=none) {i:Nat} (hit:s.heap.IsKeyIter it d i es.size ep) {Q:Option OE->OH->Prop} (hQ:∀(hi:i<es.size) h',h'.IsKeyIter it d (i+1) es.size ep->Rd it s.heap h'->Q (some es[i].key) { s with heap:=h' }) (hE:es.size<=i->∀h',VC it s.heap h'->Q none { s with heap:=h' }):O3 (model P w) A (pyNext (.ref it)) Q E s:=by
 obtain⟨oi,ho,hc,hd⟩:=id hit;unfold pyNext;refine OB (wpAny_attempt (wpAny_callSpecial?_slot (name:=Rg "__next__") hit.typeIs Q7 (wpAny_call_entry Q7 hit.typeIs PySem.F.entry_dict_keyiterator_next ?_ (PySem.F.args_dict_keyiterator_next_1 _))));refine OB (OC (OB (OB (OB (wpAny_typeNameOfWhole_keyiter hit.typeIs (OC (OB (wpAny_fieldsOf ho hd ?_))))))));have HS:Builtin.Dict_items.ownsTuple "dict_keyiterator"=false:=by decide
 simp only [HS,OQ,if_false];show O3 _ _ (if (Q4 d == P7)=true then _ else _) _ _ s
 rw [if_neg (show ¬ ((Q4 d == P7)=true) from Qo)];refine OB (OC (OB (wpAny_dictEntries D.ho D.hd ?_)));rw [if_neg (by simp)];refine OB (OC (OB (wpAny_dictEpoch D.ho D.hd ?_)));rw [if_neg (by simp)];refine OC ?_;by_cases hi:i<es.size
 ·simp only [show ¬ ((i:Int)<0) from by omega,if_false,Qf,OO hi]
  refine OB (OB (wpAny_typeNameOfWhole_keyiter hit.typeIs (OC (OB (wpAny_isOneOf_keyiter hit.typeIs ?_)))));show O3 _ _ (setField (.ref it) 1 (rawInt ((i:Int)+1)) >>= _) _ _ s
  refine OB (wpAny_setField ho hd (by simp) ?_);have sQ:(s.heap.update it (Sj (·.setIfInBounds 1 (rawInt ((i:Int)+1))))).IsKeyIter it d (i+1) es.size ep :=
   ⟨_,Qi _ ho (SV (Rh hd _)),(T7 ..).trans hc,by rw [Rh hd];simp [rawInt]⟩
  refine OB (wpAny_holding (OB (wpAny_isOneOf_keyiter (s:={ s with heap:=s.heap.update it (Sj (·.setIfInBounds 1 (rawInt ((i:Int)+1)))) }) sQ.typeIs ?_)));show O3 _ _ (pure es[i].key) _ _ _
  exact OC (OC ⟨_,rfl,OC (hQ hi _ sQ (Qa ..))⟩)
 ·simp only [show ¬ ((i:Int)<0) from by omega,if_false,Qf,Array.getElem?_eq_none (by omega:es.size<=i)]
  refine OB (OB (wpAny_typeNameOfWhole_keyiter hit.typeIs (OC ?_)));show O3 _ _ (setField (.ref it) 0 .none >>= _) _ _ s
  refine OB (wpAny_setField ho hd (by simp) (OB ?_));simp only [newExc,newTuple];refine OB (wpAny_newObj_type ?_ (by size_fits));refine OB (m:=firstArgMember _ _) (wpAny_of_eq (a:=P7) (by first|rfl|(simp only [firstArgMember];rfl)) (wpAny_newObj_type ?_ (by size_fits)));simp only [raiseNew];refine OB (wpAny_handled ?_);rw [show A.in1.handled=none from hh];refine OB (OC (wpAny_throw ?_));refine OB (wpAny_isInstance (T:="StopIteration") (b:=true) ⟨_,OM _ rfl,rfl⟩ isSubtype_stop ?_);exact OC (hE (by omega) _ (((Qa ..).extBut.push _).push _))
theorem DO.keep {h h':Heap} (D:DO h d o es ep) (k:∀o,h.get? d=some o->h'.get? d=some o):DO h' d o es ep:=⟨k _ D.ho,D.hx,D.hd⟩
theorem DO.src (hs:(d == sysModules)=false):PySem.W.KdlSrc P w "dict" d d es.size (fun i v=>∃e,es[i]?=some e/\v=e.key) (fun h=>DO h d o es ep) where
 type:=fun _ D=>⟨o,D.ho,D.hx.1⟩
 there:=fun _ D=>⟨O4 D.ho,O4 D.ho⟩
 keep:=fun _ _ D k=>D.keep fun o e=>k d (.inl rfl) o e
 notList:=by decide
 notTuple:=by decide
 hint:=fun _ _ _ _ D q=>PySem.W.kdl_hint_dict ⟨o,D.ho,D.hx.1⟩ q
 iter:=fun _ s hh D=>⟨_,fun i h=>h.IsKeyIter s.heap.objs.size d i es.size ep/\DO h d o es ep,(fun _ _ q=>D.iter hs q),{
  sub:=fun b hb=>by simp at hb;simp [hb]
  frame:=fun _ _ _ st k=>⟨st.1.at fun o e=>k _ (by simp) o e,st.2.keep fun o e=>k d (by simp) o e⟩
  item:=fun i s' Q E hi st hQ=>st.2.next hh st.1 (fun _ h' a b=>hQ _ h' s'.toks ⟨_,OO hi,rfl⟩ ⟨a,st.2.keep fun o e=>(b.2 d (O8 (O4 D.ho))).trans e⟩ fun c o hc e=>(b.2 c fun z=>hc (by simp [z])).trans e) fun z=>absurd hi (Nat.not_lt.mpr z)
  done:=fun s' Q E st hQ=>st.2.next hh st.1 (fun z=>absurd z (Qj _)) fun _ h' b=>hQ h' s'.toks fun c o hc e=>b c o (fun z=>hc (by simp [z])) e
  self:=fun _ _ _ _ st q=>wpAny_pyIter_keyiter st.1 q },⟨⟨_,OM _ rfl,rfl,rfl⟩,D.keep fun o e=>OJ _ e⟩⟩
end
section
variable {X:Cx} {pins:ar} {φ:Fr} {g:G} {L:Live} {s:OH}
theorem sR {fz:Bool} {ks:List (T × T)} {a:Pf} {o:Obj} {es:Array DictEntry} {ep:Nat} {w:T} {L':Live} (I:Inv X pins φ g L s) (D:bj X g s ks a o es ep) (h:eE fz (ks.map (·.1)) L=.ok w L'):O3 (model X.prog X.w) X.A (call (.type "list") [.ref a]) (EP X pins φ g w L') F0 s:=by
 refine PySem.W.kdl_call (DO.src (o:=o) (es:=es) (ep:=ep) D.hs) I.ok.hd ⟨D.ho,D.hx,D.hd⟩ (by have:=D.hz;have:=D.hl;omega) fun h' tk acc c' kp hg jm=>?_
 refine jd (t':=tk) (n:=c') (us:=acc.toList) I (cC ?_ fun i x v e1 e2=>?_) h kp (by simpa using hg)
 ·have:=jm.1
  have:=D.hl;simp;omega
 ·obtain⟨e,f1,rfl⟩:=jm.2 i v (by rw [<- QP];exact e2)
  rw [Pb] at e1;obtain⟨q,q1,q2⟩:=OW.mp e1;rw [<- q2];exact D.h1 i q e q1 f1
end
section
variable {X:Cx} {pins:ar} {φ:Fr} {g:G} {L:Live} {s:OH} {xs ys:List T} {us vs:List OE} {e a b:Expr} {m ma mb:SE} {pos p2:Pos}
theorem BC {α:Type} {y:T} {f:Int->R α} {w:α} {L':Live} (h:(match y with|.int i=>f i|_=>.bad)=.ok w L'):∃i,y=.int i/\f i=.ok w L':=by
 cases y with
 | int i=>exact⟨i,rfl,h⟩
 | _=>cases h
theorem ED {α:Type} {y:T} {f:R α} {w:α} {L':Live} (h:(match y with|.bK=>f|_=>.bad)=.ok w L'):y=.bK/\f=.ok w L':=by
 cases y with
 | bK=>exact⟨rfl,h⟩
 | _=>cases h
theorem LJ {α:Type} {y:T} {f:Nat->R α} {w:α} {L':Live} (h:(match y with|.str [ch]=>f ch|_=>.bad)=.ok w L'):∃ch,y=.str [ch]/\f ch=.ok w L':=by
 split at h
 ·exact⟨_,rfl,h⟩
 ·cases h
theorem zU (hu:X.A.units+20<cLine) {x y:T} {u v:OE} {k:Bool} {L':Live} (I:Inv X pins φ g L s) (rx:RT g none x u) (ry:RT g none y v) (h:mY x y L=.ok k L') :
  L'=L/\(∀Q:OE->OH->Prop,(∀tk,Q (.bool k) { s with toks:=tk })->O3 (model X.prog X.w) X.A (compareOp .In u v) Q F0 s)/\∀Q:OE->OH->Prop,(∀tk,Q (.bool (!k)) { s with toks:=tk })->O3 (model X.prog X.w) X.A (compareOp .NotIn u v) Q F0 s:=by
 obtain⟨p,vy⟩:=I.view ry;unfold mY at h;generalize vw L y=y' at h vy;have ip:X.A.in1.units+8<cLine:=by show X.A.units+1+8<cLine;omega
 cases y' with
 | str b =>
  obtain⟨ch,rfl,h⟩:=LJ h;cases h;obtain⟨_,rfl⟩:=rx.sI;obtain⟨_,rfl⟩:=vy.sI;exact⟨rfl,fun Q q=>in_str (by rw [qR];exact q s.toks),fun Q q=>notIn_str (by rw [qR];exact q s.toks)⟩
 | lst ys =>
  obtain⟨⟨h1,h2⟩,h⟩:=ao h;cases h;obtain⟨a,its,n,rfl,e,r,_⟩:=I.lst vy;obtain⟨f,f1,f2,_⟩:=pA I ip h1 rx h2 r;rw [<- f2,<- show its.any f=its.toList.any f by simp];exact⟨rfl,fun Q q=>SeqAt.in_listAt f (aa e) (fun w hw=>f1 w (by simpa using hw)) (q s.toks),fun Q q=>SeqAt.notIn_listAt f (aa e) (fun w hw=>f1 w (by simpa using hw)) (q s.toks)⟩
 | tup ys =>
  obtain⟨⟨h1,h2⟩,h⟩:=ao h;cases h;obtain⟨a,its,rfl,e,r,_⟩:=I.tupP vy;obtain⟨f,f1,f2,_⟩:=pA I ip h1 rx h2 r;rw [<- f2,<- show its.any f=its.toList.any f by simp];exact⟨rfl,fun Q q=>SeqAt.in_tupleAt f e (fun w hw=>f1 w (by simpa using hw)) (q s.toks),fun Q q=>SeqAt.notIn_tupleAt f e (fun w hw=>f1 w (by simpa using hw)) (q s.toks)⟩
 | aO ks =>
  obtain⟨h1,h⟩:=ao h;cases h;obtain⟨a,o,es,ep,rfl,_,_,D⟩:=I.aO vy;obtain⟨d1,d2⟩:=D.in I hu h1 rx;exact⟨rfl,fun Q q=>d1 Q q,fun Q q=>d2 Q q⟩
 | _=>cases h
theorem yj {l b:Pf} {x y:Array OE} {n n2:Nat} (hz:x.size=y.size) (k:Nat):∀i:Nat,x.size - i=k->Meets (Builtin.«list.__eq__.loop» ⟨[.ref l,.ref b,rawInt i,rawInt 0],[]⟩)
  (fun A R s=>s.heap.get? l=some { cls:=.type "list",data:=.seq x n }/\s.heap.get? b=some { cls:=.type "list",data:=.seq y n2 }/\(∀j (h1:j<x.size) (h2:j<y.size),QG A.in1 s x[j] y[j] true)/\R (.ok (.ret (.bool false))) s):=by
 induction k with
 | zero =>
  intro i hk prog w A R s ⟨hl,hb,he,h⟩;have e1:x[((i:Nat):Int).toNat]?=none:=by simp;omega
  have e2:y[((i:Nat):Int).toNat]?=none:=by simp;omega
  obtain⟨hp,g,d,tk,os⟩:=s
  wp_walk using P1 hl,P1 hb
  rw [e1,e2]
  wp_walk using P1 hl,P1 hb
  show R (.ok (.ret (.bool (decide (x.size<y.size))))) _;rw [hz,decide_eq_false (Qj _)];exact h
 | succ k ih =>
  intro i hk prog w A R s ⟨hl,hb,he,h⟩;have h1:i<x.size:=by omega
  have h2:i<y.size:=by omega
  have e1:x[((i:Nat):Int).toNat]?=some x[i]:=by simp [h1]
  have e2:y[((i:Nat):Int).toNat]?=some y[i]:=by simp [h2]
  obtain⟨hp,g,d,tk,os⟩:=s
  wp_walk using P1 hl,P1 hb
  rw [e1,e2];refine OB (he i h1 h2 prog w _ _ ?_)
  wp_walk
  rw [show((i:Int)+1)=((i+1:Nat):Int) by push_cast;rfl];exact⟨plainId_quiet RC _,codeAny_builtin Ul (by
   rw [Pw RC _];exact ih (i+1) (by omega) prog w A R _ ⟨hl,hb,he,h⟩)⟩
theorem yk {l b:Pf} {x y:Array OE} {n n2:Nat} (hz:x.size=y.size):Meets (Builtin.«list.__lt__» ⟨[.ref l,.ref b],[]⟩)
  (fun A R s=>s.heap.get? l=some { cls:=.type "list",data:=.seq x n }/\s.heap.get? b=some { cls:=.type "list",data:=.seq y n2 }/\(∀j (h1:j<x.size) (h2:j<y.size),QG A.in1 s x[j] y[j] true)/\R (.ok (.ret (.bool false))) s):=by
 intro prog w A R s ⟨hl,hb,he,h⟩;obtain⟨hp,g,d,tk,os⟩:=s;have f:=AutoSeq1.sub_list_list
 wp_walk using P1 hl,P1 hb
 exact⟨plainId_quiet RC _,codeAny_builtin Ul (by
  rw [Pw RC _];exact yj hz _ 0 rfl prog w A R _ ⟨hl,hb,he,h⟩)⟩
theorem yl (hu:X.A.units+20<cLine) {u v:OE} (I:Inv X pins φ g L s) (rx:RT g none (.lst xs) u) (ry:RT g none (.lst ys) v) (h1:dat 8 (.lst xs)=true) (h2:dat 8 (.lst ys)=true) (h:eqT (.lst xs) (.lst ys)=true):O3 (model X.prog X.w) X.A (compareOp .Lt u v) (EP X pins φ g (.bl false) L) F0 s:=by
 obtain⟨a,x,n,rfl,e,r,_⟩:=I.lst rx;obtain⟨b,y,n2,rfl,e2,r2,_⟩:=I.lst ry;have h:iO (mX 7) xs ys=true:=h
 have h1:xs.all (dat 7)=true:=h1;have h2:ys.all (dat 7)=true:=h2
 rw [<- d9,ON,OD] at h;have hl:xs.length=ys.length:=by simpa using h.2
 have l1:xs.length=x.size:=by simpa using OX r
 have l2:ys.length=y.size:=by simpa using OX r2
 refine richCompare_meets_room (op:=.Lt) ⟨_,e,rfl⟩ ⟨_,e2,rfl⟩ PySem.F.slot_list_lt PySem.F.entry_list_lt (PySem.F.args_list_lt_2 _ _) (yk (n:=n) (n2:=n2) (by omega)) ⟨e,e2,fun j j1 j2=>?_,(show Value.bool false≠U7/\EP X pins φ g (.bl false) L (.bool false) s from⟨(fun z=>nomatch z),I.ep (.bl false)⟩)⟩ (by omega);have q:=h.1 j (by simp;omega)
 rw [<- q];exact(I.rc 7 (lR h1 (by omega)) (lR h2 (by omega)) (by show X.A.units+1+7<cLine;omega) (oV r j _ _ (getD_at (by omega)) (by simp [j1])) (oV r2 j _ _ (getD_at (by omega)) (by simp [j2]))).2
theorem ne_nil (hu:X.A.units+20<cLine) {u v:OE} (I:Inv X pins φ g L s) (rx:RT g none (.lst xs) u) (ry:RT g none (.lst []) v):O3 (model X.prog X.w) X.A (compareOp .NotEq u v) (EP X pins φ g (.bl (!xs.isEmpty)) L) F0 s:=by
 obtain⟨a,x,n,rfl,e,r,_⟩:=I.lst rx;obtain⟨b,y,n2,rfl,e2,r2,_⟩:=I.lst ry;have l1:xs.length=x.size:=by simpa using OX r
 have l2:0=y.size:=by simpa using OX r2
 cases xs with
 | nil=>exact Vo (e:=fun _=>true) (aa e) (aa e2) (by simp at l1;omega) (by omega) (fun j h1 h2=>by omega) _ _ _ _ (by rw [show x.size=0 from l1.symm];exact I.ep (.bl false))
 | cons t r=>exact Tz (aa e) (aa e2) (by simp at l1 ⊢;omega) (by omega) _ _ _ _ (I.ep (.bl true))
theorem jo {op:CmpOp} (hu:X.A.units+20<cLine):xx X (compareOp op) (cmp op):=fun {pins φ g L s x y w L' u v} I rx ry h=>by
 obtain⟨k,h',rfl⟩:=oZ h;clear h;have fin:∀k,EP X pins φ g (.bl k) L (.bool k) s:=fun k=>I.ep (.bl k)
 cases op with
 | Eq =>
  obtain⟨h1,h2,rfl,rfl⟩:=Br h';obtain⟨p,vx⟩:=I.view rx;obtain⟨q,vy⟩:=I.view ry;exact(I.rc 8 h1 h2 (by omega) vx vy).1 _ _ _ _ (fin _)
 | NotEq =>
  have h:Hb x y L=.ok k L':=h';unfold Hb at h;split at h
  ·obtain⟨_,rfl⟩:=rx.iI;obtain⟨_,rfl⟩:=ry.iI;cases h;exact ne_int (fin _)
  ·obtain⟨_,rfl⟩:=rx.sI;obtain⟨_,rfl⟩:=ry.sI;cases h;refine ne_str ?_;simp only [bne,str_beq];exact fin _
  ·cases h;exact ne_nil hu I rx ry
  ·cases h
 | Lt =>
  have h:Hc x y L=.ok k L':=h';unfold Hc at h;split at h
  ·obtain⟨_,rfl⟩:=rx.iI;obtain⟨_,rfl⟩:=ry.iI;cases h;exact lt_int (fin _)
  ·obtain⟨_,rfl⟩:=rx.sI;obtain⟨_,rfl⟩:=ry.sI;cases h;exact lt_str (fin _)
  ·obtain⟨⟨h1,h2,h3⟩,h⟩:=ao h;cases h;exact yl hu I rx ry h1 h2 h3
  ·cases h
 | Gt =>
  have h:Hd x y L=.ok k L':=h';unfold Hd at h;split at h
  ·obtain⟨_,rfl⟩:=rx.iI;obtain⟨_,rfl⟩:=ry.iI;cases h;exact gt_int (fin _)
  ·cases h
 | LtE =>
  have h:Dz x y L=.ok k L':=h';unfold Dz at h;split at h
  ·obtain⟨_,rfl⟩:=rx.iI;obtain⟨_,rfl⟩:=ry.iI;cases h;exact le_int (fin _)
  ·cases h
 | GtE =>
  have h:Dz y x L=.ok k L':=h';unfold Dz at h;split at h
  ·obtain⟨_,rfl⟩:=rx.iI;obtain⟨_,rfl⟩:=ry.iI;cases h;exact ge_int (fin _)
  ·cases h
 | Is =>
  obtain⟨rfl,h'⟩:=ED h';obtain rfl:=ry.nI;cases h';exact is_none_gen (by rw [uA rx];exact fin _)
 | IsNot =>
  obtain⟨rfl,h'⟩:=ED h';obtain rfl:=ry.nI;cases h';exact isnot_none_gen (by rw [uA rx];exact fin _)
 | In =>
  obtain⟨rfl,a,_⟩:=zU hu I rx ry h';exact a _ fun tk=>(I.tok tk).ep (.bl _)
 | NotIn =>
  obtain⟨k,h2,rfl⟩:=oZ h';obtain⟨rfl,_,a⟩:=zU hu I rx ry h2;exact a _ fun tk=>(I.tok tk).ep (.bl _)
theorem EE (hu:X.A.units+20<cLine) (hb:sM b=true):xx X (fun o i=>subscriptTail a b o i) ix:=fun {pins φ g L s x y w L' u v} I rx ry h=>by
 obtain⟨p,vx⟩:=I.view rx;have hn:=pD
 unfold ix at h;generalize vw L x=x' at h vx;have hs:=fun o i=>uC hb o i
 cases x' with
 | str z =>
  obtain⟨i,rfl,h⟩:=BC h;obtain⟨q1,rfl⟩:=gV h;obtain⟨ch,q2,rfl⟩:=OW.mp q1;obtain⟨j,hj,hc⟩:=QV.mp q2;obtain⟨h1,h2,h3,h4,_⟩:=jk hj;obtain⟨_,rfl⟩:=ry.iI;obtain⟨t,rfl,hz⟩:=vx.gD
  ·have hl:(⟨z.toArray⟩:Str).length=z.length:=by show z.toArray.size=_;simp
   exact tail_any (typeIs_str s _ t) slot_str_getitem.lookup (getItem_str (c:=ch) (by
    have e1:decide (i < -(2 ^ 63:Int))=false:=decide_eq_false (by omega);have e2:decide (i≥2 ^ 63)=false:=decide_eq_false (by omega)
    rw [e1,e2,Bool.or_false]) (by rw [hl,h1];simpa using hc) ((I.tok _).ep (.str [ch] _ (by show 1<=O6;decide)))) (hs _ _)
 | tup xs =>
  obtain⟨i,rfl,h⟩:=BC h;obtain⟨q1,rfl⟩:=gV h;obtain⟨j,hj,hc⟩:=QV.mp q1;obtain⟨h1,h2,h3,h4,_⟩:=jk hj;obtain⟨_,rfl⟩:=ry.iI;obtain⟨a,its,rfl,e,r,hz⟩:=I.tupP vx;obtain⟨u,hu,ru⟩:=sF r hc;have hl:xs.length=its.size:=by have:=OX r;simp at this;omega
  exact subscriptTail_builtinR (x:=u) e.typeIs slot_tuple_getitem.lookup
   (getItem_tuple (j:=j) (Q:=fun r s'=>r=u/\EP X pins φ g w L' r s') e (by omega) (by omega) (by rw [<- hl];exact h1) (by simpa using hu) ⟨rfl,I.ep ru⟩) (hs _ _)
 | lst xs =>
  obtain⟨i,rfl,h⟩:=BC h;obtain⟨q1,rfl⟩:=gV h;obtain⟨j,hj,hc⟩:=QV.mp q1;obtain⟨h1,h2,h3,h4,h5⟩:=jk hj;obtain⟨_,rfl⟩:=ry.iI;obtain⟨a,its,n,rfl,e,r,hz⟩:=I.lst vx;obtain⟨u,hu,ru⟩:=sF r hc;have hl:xs.length=its.size:=by have:=OX r;simp at this;omega
  rcases h5 with⟨h0,hj⟩|⟨h0,hj⟩
  ·exact item_listR (aa e) h0 (by omega) (by rw [hj];simpa using hu) (I.ep ru) (hs _ _)
  ·exact subscriptTail_builtinR (x:=u) (aa e).typeIs slot_list_getitem.lookup
    (wpAny_getItem_list_neg (Q:=fun r s'=>r=u/\EP X pins φ g w L' r s') (aa e) (by omega) (by omega) (by omega) (by rw [<- hl,hj];simpa using hu) ⟨rfl,I.ep ru⟩) (hs _ _)
 | aO ks =>
  obtain⟨h1,q1⟩:=ao h;obtain⟨q2,rfl⟩:=gV q1;obtain⟨d,o,es,ep,rfl,_,_,D⟩:=I.aO vx;exact tail_any D.typeIs slot_dict_getitem.lookup (D.item I hu h1 ry q2 fun tk u r=>(I.tok tk).ep r) (hs _ _)
 | _=>cases h
theorem BD {t:T} {u v:OE} (h:yg t v=true) (r:RT g none t u):RT g none t v:=by
 rcases dX h with⟨i,k,rfl,rfl⟩|⟨z,k,rfl,rfl⟩
 ·exact .int _ _
 ·obtain⟨_,_,hz⟩:=r.gD;exact .str _ _ hz
theorem BE (hu:X.A.units+20<cLine):Bw X "dict.get" lI:=fun {_ _ g _ s _ _ _ _ _ _} I rx rv h=>by
 have ip:X.A.in1.units+8<cLine:=by show X.A.units+1+8<cLine;omega
 unfold lI at h;split at h
 ·rename_i ks y t ev
  obtain⟨h1,h⟩:=ao h;cases h;obtain⟨p,v⟩:=I.view rx;rw [ev] at v;obtain⟨a,o,es,ep,rfl,_,_,D⟩:=I.aO v;obtain⟨u1,u2,rfl,r1,r2⟩:=il rv;have M:MeetsIn X.prog X.w (Builtin.«dict.get» ⟨[.ref a,u1,u2],[]⟩) (fun A R s'=>A=X.A/\s'=s/\∀tk u,RT g none ((di ks y).getD t) u->R (.ok (.ret u)) { s with toks:=tk }) :=
   .of_wp fun A R s' ⟨eA,eH,h⟩=>by
    subst eA eH;show O3 _ _ (dictGet a u1 >>= _) _ _ _
    refine OB (D.get I ip h1 r1 fun tk u hu=>?_);rcases hu with⟨rfl,e⟩|⟨u,z,rfl,e,r⟩
    ·rw [e] at h
     show O3 _ _ (Builtin.Dict.missed a u1 >>= _) _ _ _;exact OB (wpAny_missed_other D.hs (OC ⟨u2,rfl,h tk u2 r2⟩))
    ·rw [e] at h
     exact OC ⟨u,rfl,h tk u r⟩
  exact call_meetsIn UU D.typeIs PySem.F.entry_dict_get (PySem.F.args_dict_get_3 _ _ _) M ⟨rfl,rfl,fun tk u r=>(I.tok tk).ep r⟩
 ·cases h
theorem BF (hu:X.A.units+20<cLine):Bw X "dict.setdefault" uc:=fun {pins φ g L s _ _ _ _ _ _} I rx rv h=>by
 have ip:X.A.in1.units+8<cLine:=by show X.A.units+1+8<cLine;omega
 unfold uc at h;split at h
 ·split at h
  ·rename_i n y t _ ks ea
   obtain⟨⟨hz,h1⟩,h⟩:=ao h;obtain⟨p,o,es,ep,rfl,hp,qV,hk,D⟩:=I.q8 rx ea;obtain⟨u1,u2,rfl,r1,r2⟩:=il rv;obtain⟨m,f1,f2⟩:=D.find I ip h1 r1;have hz:ks.length<O6:=hz
   have M:MeetsIn X.prog X.w (Builtin.«dict.setdefault» ⟨[.ref p.1,u1,u2],[]⟩) (fun A R s'=>A=X.A/\s'=s/\(∀tk u x,di ks y=some x->RT g none x u->R (.ok (.ret u)) { s with toks:=tk })/\(di ks y=none->∀s',(∃g',Le g g'/\Inv X pins φ g' (put L n (.aO (dput ks y t))) s')->R (.ok (.ret u2)) s')) :=
    .of_wp fun A R s' ⟨eA,eH,h1',h2'⟩=>by
     subst eA eH;unfold Builtin.«dict.setdefault»;refine OB ?_;unfold Builtin.Dict.keyAndDefault;refine OB (wpAny_notOrdered_dict D.typeIs ?_);show O3 _ _ (pure (p.1,u1,some u2)) _ _ _
     refine OC ?_;show O3 _ _ (if (p.1 == sysModules)=true then _ else (dictSetDefault p.1 u1 u2 >>= _)) _ _ _
     rw [if_neg (by rw [D.hs];exact Qo)];refine OB ?_;unfold dictSetDefault
     try with_reducible refine wpAny_holding ?_
     refine OB (f1 _ _ (OB (f2 _ _ _ ?_)));cases e:pl ks y with
     | none =>
      exact OB (wpAny_rule (OB (wpAny_updateDictKeys (hz:=by have:=D.hl;omega) (s:={ s' with toks:=s'.toks+m }) D.ho D.hd (OC (OC ⟨u2,rfl,h2' (lY e).1 _ (let ⟨g',l,J,_⟩:=D.new I hp qV hk h1 hz e r1 r2;⟨g',l,J⟩)⟩)))))
     | some i =>
      obtain⟨q,q1,q2,q3⟩:=lX e;obtain⟨d,d1⟩:=D.at q1;refine OB (wpAny_dictEntries (s:={ s' with toks:=s'.toks+m }) D.ho D.hd ?_);rw [d1];exact OB (wpAny_rule (OC (OC ⟨d.val,rfl,h1' _ _ _ q3 (D.h2 i q d q1 d1)⟩)))
   refine call_meetsIn Td D.typeIs PySem.F.entry_dict_setdefault (PySem.F.args_dict_setdefault_3 _ _ _) M ⟨rfl,rfl,fun tk u x e r=>?_,fun e s' ⟨g',l,J⟩=>?_⟩
   ·simp only [e] at h
    cases h;exact(I.tok tk).ep r
   ·simp only [e] at h
    cases h;exact⟨g',l,J,r2.le l⟩
  ·cases h
 ·cases h
theorem sS {fz:Bool}:dN X (.type "list") (dC fz):=fun {_ _ g _ s _ _ _ _} I r h=>by
 unfold dC at h;split at h
 ·obtain⟨u,rfl,ru⟩:=cY r
  split at h
  ·exact qU I ru (.inr (by assumption)) h
  ·exact qU I ru (.inl (by assumption)) h
  ·rename_i ks ev
   obtain⟨p,v⟩:=I.view ru;rw [ev] at v;obtain⟨a,o,es,ep,rfl,_,_,D⟩:=I.aO v;exact sR I D h
  ·cases h
 ·cases h
theorem ym {i:Expr} (h:sM i=true):∀ov iv new,augStore i ov iv new=(do holding [new,ov,iv] (setItem ov iv new);release [new,ov,iv] [];pure .next):=fun _ _ _=>by
 cases i <;> first|rfl|cases h
theorem set_list {Md:Pp} {w:Qn} {A:Pm} {E:OE->OH->Prop} {l:Pf} {items:Array OE} {n:Nat} {k:Int} {t:Tok} {v:OE} {Q:Unit->OH->Prop} (ho:s.heap.get? l=some { cls:=.type "list",data:=.seq items n }) (h0:0<=k) (hfit:k<2 ^ 63) (hn:k<items.size)
  (hQ:Q () { s with heap:=s.heap.update l (Qx (·.setIfInBounds k.toNat v)) }):O3 (model Md w) A (setItem (.ref l) (.int k t) v) Q E s:=by
 have hl:=aa ho;unfold setItem
 try with_reducible refine wpAny_holding ?_
 first|refine OB (OC ?_)|skip
 refine OB (wpAny_sequenceKey hl.typeIs (by decide) ?_);refine OB (wpAny_callSpecial?_slot (name:=Rg "__setitem__") hl.typeIs slot_list_setitem
  (wpAny_call_entry slot_list_setitem hl.typeIs entry_list_setitem ?_ (args_list_setitem _ _ _)))
 show O3 _ _ (Builtin.List.listSubscript? (.int k t) >>= _) _ _ s;refine OB (wpAny_listSubscript_int (fitsIndex_of h0 hfit) ?_);clear hfit;obtain⟨j,rfl⟩:=Int.eq_ofNat_of_zero_le h0;have hj:j<items.size:=by omega
 have hx':items[j]?=some items[j]:=OO hj;show O3 _ _ ((seqItemAt l j >>= fun r=>pure (r.map (j,·))) >>= _) _ _ s
 refine OB (OB (wpAny_seqItemAt ho rfl (OC ?_)));rw [hx'];show O3 _ _ (setSeqItemAt l j v >>= _) _ _ s
 refine OB (wpAny_setSeqItemAt ho rfl ?_)
 first
  | exact OB (OC (OC ⟨.none,rfl,OC hQ⟩))
  | exact OC ⟨.none,rfl,OC hQ⟩
theorem bz.set {i:Nat} {t:T} {u:OE} (h:bz g xs us) (r:RT g none t u):∀i,bz g (xs.set i t) (us.set i u):=by
 induction h with
 | nil=>intro i;simp;exact .nil
 | cons a b ih=>intro i;cases i with
  | zero=>exact .cons r b
  | succ i=>exact .cons a (ih i)
theorem lZ (hu:X.A.units+20<cLine) {x y t:T} {xv yv tv:OE} {L':Live} (I:Inv X pins φ g L s) (rx:RT g none x xv) (ry:RT g none y yv) (rt:RT g none t tv) (h:iP x y t L=some L'):O3 (model X.prog X.w) X.A (setItem xv yv tv) (fun _ s'=>SP X pins g (.nx φ L') .next s') F0 s:=by
 unfold iP at h;split at h
 ·split at h
  ·split at h
   ·rename_i hc
    cases h;exact a7 (yi I hu (by assumption) rx ry rt hc.1 hc.2) fun _ s' z=>z
   ·cases h
  ·rename_i ea
   split at h
   ·split at h
    ·rename_i hc
     cases h;obtain⟨_,rfl⟩:=ry.iI;obtain⟨a,its,cnt,rfl,e,rr,hl,hz⟩:=I.qW rx ea;have hn:=pD
     refine set_list e hc.1 (by omega) (by omega) ?_;obtain⟨g',l,J,_⟩:=I.ye (t':=s.toks) (f:=(·.setIfInBounds _ tv)) ea rx e (by simpa using rr.set rt (i:=0) _) (by simpa using hz);exact⟨g',l,J⟩
    ·cases h
   ·cases h
  ·cases h
 ·cases h
theorem yn {o i:Expr} {mo mi:SE} (hu:X.A.units+20<cLine) (ho:PE X o mo) (hi:PE X i mi) (he:PE X e m) (hs:fP e=true):PS X (.Assign [.Subscript o i p2] e pos) (sE mo mi m):=fun {pins φ g L s} I h=>by
 obtain⟨t,L1,e1,q1,h⟩:=gF h;rw [show sE mo mi m φ L=_ from q1];obtain⟨x,L2,e2,q2,h⟩:=gF h;rw [q2];obtain⟨y,L3,e3,q3,h⟩:=gF h;rw [q3];cases ep:iP x y t L3 with
 | none=>simp only [ep] at h;exact absurd rfl h
 | some L4 =>
  simp only [ep];exact wpAny_Assign_Subscript (a7 (he I e1) fun tv s1 ⟨g1,l1,I1,r1⟩=>a7 (ho I1 e2) fun xv s2 ⟨g2,l2,I2,r2⟩=>a7 (hi I2 e3) fun yv s3 ⟨g3,l3,I3,r3⟩ =>
   a7 (lZ hu I3 (r2.le l3) r3 (r1.le (l2.trans l3)) ep) fun _ s4 z=>z.le ((l1.trans l2).trans l3)) (fq hs)
theorem yo {o i:Expr} {mo mi:SE} {op:Operator} (hu:X.A.units+20<cLine) (ho:PE X o mo) (hi:PE X i mi) (he:PE X e m) (hx:sM i=true):PS X (.AugAssign (.Subscript o i p2) op e pos) (ua op mo mi m):=fun {pins φ g L s} I h=>by
 obtain⟨x,L1,e1,q1,h⟩:=gF h;rw [show ua op mo mi m φ L=_ from q1];obtain⟨y,L2,e2,q2,h⟩:=gF h;rw [q2];obtain⟨z,L3,e3,q3,h⟩:=gF h;rw [q3];obtain⟨t,L4,e4,q4,h⟩:=gF h;rw [q4];obtain⟨r,L5,e5,q5,h⟩:=gF h;rw [q5];cases ep:iP x y r L5 with
 | none=>simp only [ep] at h;exact absurd rfl h
 | some L6 =>
  simp only [ep];refine wpAny_AugAssign_Subscript_any (a7 (ho I e1) fun xv s1 ⟨g1,l1,I1,r1⟩=>a7 (hi I1 e2) fun yv s2 ⟨g2,l2,I2,r2⟩=>?_) (ym hx);have hg:O3 (model X.prog X.w) X.A (getItem xv yv) (EP X pins φ g2 z L3) F0 s2:=by
   unfold D7 at e3;obtain⟨p,v⟩:=I2.view (r1.le l2);split at e3
   ·rename_i ev
    rw [ev] at v;obtain⟨h1,k1⟩:=ao e3;obtain⟨k2,k3⟩:=gV k1;subst k3;obtain⟨d,o,es,ep,rfl,_,_,D⟩:=I2.aO v;exact D.item I2 hu h1 r2 k2 fun tk u r=>(I2.tok tk).ep r
   ·cases e3
  exact a7 hg fun zv s3 ⟨g3,l3,I3,r3⟩=>a7 (he I3 e4) fun tv s4 ⟨g4,l4,I4,r4⟩=>a7 (BB I4 (r3.le l4) r4 e5) fun rv s5 ⟨g5,l5,I5,r5⟩ =>
   a7 (lZ hu I5 ((r1.le l2).le ((l3.trans l4).trans l5)) (r2.le ((l3.trans l4).trans l5)) r5 ep) fun _ s6 w=>w.le ((((l1.trans l2).trans l3).trans l4).trans l5)
theorem BG {fz:Bool} {ks:List (T × T)} {o:Obj} {es:Array DictEntry} {ep tk:Nat} {h':Heap} {w:T} {L2:Live} (I:Inv X pins φ g L s) (h:mk fz (.aO ks) L=.ok w L2) (k:∀b u,s.heap.get? b=some u->h'.get? b=some u) (new:h'.get? s.heap.objs.size=some o) (hx:o.ExactDict) (hd:o.data=.dict es ep)
  (hz:ks.length<=O6) (hl:ks.length=es.size) (hn:(ks.map (·.1)).Nodup) (hm:eF (ks.map (·.1))=true) (hh:∀(i:Nat) x e,ks[i]?=some x->es[i]?=some e->e.hash=hT X.w x.1/\RT g none x.1 e.key/\RT g none x.2 e.val) :
  EP X pins φ g w L2 (.ref s.heap.objs.size) { s with heap:=h',toks:=tk }:=by
 have big:(s.heap.objs.size == sysModules)=false:=by
  have h1:sysModules<s.heap.objs.size:=Rw (by decide) (I.mod.glob.keeps I.bk).lt;simpa using QX h1
 have rt:∀(g1:G) (q:Option (Pf × Pf)),Le g g1->qG q s.heap.objs.size s.heap.objs.size->g1.kn q.isNone s.heap.objs.size o->RT g1 q (.aO ks) (.ref s.heap.objs.size):=fun g1 q l ht hk =>
  .aO ht hk hx hd hz hl ⟨hn,hm⟩ big (fun i x e e1 e2=>by rw [l.w,I.gw];exact(hh i x e e1 e2).1) (fun i x e e1 e2=>(hh i x e e1 e2).2.1.le l) fun i x e e1 e2=>(hh i x e e1 e2).2.2.le l
 unfold mk at h;split at h
 ·cases h
  exact⟨_,Le.lay I.fresh,I.laid k (OR _) new,rt _ none (Le.lay I.fresh) (.inl rfl) (.inl ak)⟩
 ·cases h
  refine⟨_,Le.new I.fresh,I.new k (OR _) new (rt _ _ (Le.new I.fresh) (.inr rfl) (.inl ak)),?_⟩;have:=I.rel.len
  exact .ref (p:=(s.heap.objs.size,s.heap.objs.size)) (by show at_ ((_,_)::g.α) _=_;rw [<- this];exact fW)
theorem yp {fz:Bool}:PE X (.Dict [] [] pos) (oY fz):=fun {_ _ _ _ s _ _} I h =>
 wpAny_Dict_empty (BG (tk:=s.toks) I h (fun b u e=>OJ _ e) (OM _ rfl) ⟨rfl,rfl,rfl⟩ rfl (Pg _) rfl Rk rfl fun i x e e1 _=>by simp at e1)
end
theorem BH {prog:Pp} {w:Qn} {A:Pm} {E:OE->OH->Prop} {s:OH} {a:Pf} {o:Obj} {xs:Array OE} {k:Nat} {Q:Option OE->OH->Prop}
  (hx:s.heap.get? a=some o) (hc:o.cls=.type "list") (EF:o.data=.seq xs k) (hd:o.dict=none) (hA:A.handled=none)
  (h:∀h' tk e,Heap.NewExcOf s.heap h' e "AttributeError"->Q none { s with heap:=h',toks:=tk }) :
  O3 (model prog w) A (getAttr? (.ref a) "keys") Q E s:=by
 obtain⟨c,aO,dat,sl⟩:=o;simp only at hc EF hd;subst hc EF hd;obtain⟨hp,g,d,tk,os⟩:=s;have hT:∀tk',(⟨hp,g,d,tk',os⟩:OH).TypeIs (.ref a) "list":=fun _=>⟨_,hx,rfl⟩
 have f1:=sub_AttributeError;have f3:=Rx.lookup
 have f4:=Rx.bind (.ref a);have f5:=am_list_getattr_none
 have hmiss:typeLookup (.type "list") "keys"=pure none:=by rw [typeLookup_type,builtinLookup_eq_fast];kernel_rfl
 unfold getAttr? getAttrBy? getAttrBy
 repeat (any_goals (first|assumption|exact hT _|((with_reducible show O3 _ _ (call (Tc "list.__getattribute__") _ _) _ _ _);refine call_meets Rx (hT _) am_entry_list_getattribute (PySem.F.args_list_getattribute_2 _ _) (meets_getattribute_miss_list a xs k sl "keys" _ hmiss (by decide +kernel) (by decide)) ⟨hx,hA,fun h' tk' e hx'=>?_⟩)|wp_step))
 obtain⟨t',u',he⟩:=hx'.there;show O3 _ _ (getattributeRaised _ _ _ _ _ _ _) _ _ _
 unfold getattributeRaised
 repeat (any_goals (first|assumption|wp_step))
 exact h _ _ _ hx'.of
theorem noKeysT {prog:Pp} {w:Qn} {A:Pm} {E:OE->OH->Prop} {s:OH} {a:Pf} {xs:Array OE} {k:Nat} {sl:Array (Option OE)} {Q:Option OE->OH->Prop}
  (hx:s.heap.get? a=some ⟨.type "tuple",none,.seq xs k,sl⟩) (hA:A.handled=none)
  (h:∀h' tk e,Heap.NewExcOf s.heap h' e "AttributeError"->Q none { s with heap:=h',toks:=tk }) :
  O3 (model prog w) A (getAttr? (.ref a) "keys") Q E s:=by
 obtain⟨hp,g,d,tk,os⟩:=s;have hT:∀tk',(⟨hp,g,d,tk',os⟩:OH).TypeIs (.ref a) "tuple":=fun _=>⟨_,hx,rfl⟩
 have f1:=sub_AttributeError;have f3:=Ru.lookup
 have f4:=Ru.bind (.ref a);have f5:=am_tuple_getattr_none
 have hmiss:typeLookup (.type "tuple") "keys"=pure none:=by rw [typeLookup_type,builtinLookup_eq_fast];kernel_rfl
 unfold getAttr? getAttrBy? getAttrBy
 repeat (any_goals (first|assumption|exact hT _|((with_reducible show O3 _ _ (call (Tc "tuple.__getattribute__") _ _) _ _ _);refine call_meets Ru (hT _) am_entry_tuple_getattribute (PySem.F.args_tuple_getattribute_2 _ _) (meets_getattribute_miss_tuple a xs k sl "keys" _ hmiss (by decide +kernel) (by decide)) ⟨hx,hA,fun h' tk' e hx'=>?_⟩)|wp_step))
 obtain⟨t',u',he⟩:=hx'.there;show O3 _ _ (getattributeRaised _ _ _ _ _ _ _) _ _ _
 unfold getattributeRaised
 repeat (any_goals (first|assumption|wp_step))
 exact h _ _ _ hx'.of
theorem entry_dul:entryFor table "dict.update.loop"=some Builtin.«dict.update.loop»:=entryFor_of_tree (by kernel_rfl)
theorem plain_dul:plainId "dict.update.loop"=true:=by decide +kernel
theorem prsOf_at:∀{ys:List T} {ps:List (T × T)},prsOf ys=some ps->ys.length=ps.length/\∀(i:Nat) p,ps[i]?=some p->ys[i]?=some (.tup [p.1,p.2])
 | [],ps,h=>by cases h;exact⟨rfl,fun i p e=>by simp at e⟩
 | y::ys,ps,h=>by
  unfold prsOf at h;split at h
  ·rename_i k x N1 h2
   cases h;obtain⟨h3,h4⟩:=prsOf_at h2;refine⟨by simp [h3],fun i p e=>?_⟩;cases i with
   | zero=>cases e;rfl
   | succ i=>exact h4 i p (by simpa using e)
  ·cases h
theorem uK (ks:List (T × T)) (y t:T):(dput ks y t).length<=ks.length+1:=by
 unfold dput;split
 ·simp
 ·simp
theorem sT {ks:List (T × T)} {y t:T} {q:T->Prop} (h:∀p∈ks,q p.1) (hy:q y):∀p∈dput ks y t,q p.1:=by
 unfold dput;split
 ·intro p hp
  obtain⟨p',h1,rfl⟩:=OT.mp hp;split
  ·exact h p' h1
  ·exact h p' h1
 ·intro p hp
  rcases OU.mp hp with h1|h1
  ·exact h p h1
  ·have:p=(y,t):=by simpa using h1
   rw [this];exact hy
theorem yq (ps:List (T × T)):(mZ ps).length<=ps.length:=by
 have key:∀(ps acc:List (T × T)),(ps.foldl (fun acc p=>dput acc p.1 p.2) acc).length<=acc.length+ps.length:=by
  intro ps;induction ps with
  | nil=>intro acc;simp
  | cons p r ih =>
   intro acc;have z:=ih (dput acc p.1 p.2)
   have z2:=uK acc p.1 p.2;rw [Se,OP];omega
 have:=key ps [];unfold mZ;simpa using this
theorem uL {ps:List (T × T)} {q:T->Prop} (h:∀p∈ps,q p.1):∀p∈mZ ps,q p.1:=by
 have key:∀(ps acc:List (T × T)),(∀p∈ps,q p.1)->(∀p∈acc,q p.1)->∀p∈ps.foldl (fun acc p=>dput acc p.1 p.2) acc,q p.1:=by
  intro ps;induction ps with
  | nil=>intro acc _ h;exact h
  | cons p r ih =>
   intro acc h1 h2;exact ih _ (fun p hp=>h1 p (OG _ hp)) (sT h2 (h1 p OI))
 exact key ps [] h fun p hp=>by simp at hp
theorem uM {ps:List (T × T)} {i:Nat} {p:T × T} (h:ps[i]?=some p):mZ (ps.take (i+1))=dput (mZ (ps.take i)) p.1 p.2:=by
 unfold mZ;rw [List.take_succ,h,T8];rfl
theorem uN {ps:List (T × T)} {i:Nat} {p:T × T} (hm:eF (ps.map (·.1))=true) (h:ps[i]?=some p):dh (mZ (ps.take i)) p.1:=by
 unfold dh;unfold eF at hm ⊢;rw [Qh,Qh] at hm ⊢;have part:∀(f:T->Bool),(ps.map (·.1)).all f=true->(p.1::(mZ (ps.take i)).map (·.1)).all f=true:=fun f hf=>by
  have hf:=OD.mp hf;refine OD.mpr fun x hx=>?_
  rcases OS.mp hx with rfl|hx
  ·exact hf _ (O9 (PH h))
  ·obtain⟨q,hq,rfl⟩:=OT.mp hx
   exact uL (q:=fun x=>f x=true) (fun q hq=>hf _ (O9 (QH hq))) q hq
 rcases hm with(hm|hm)|hm
 ·exact .inl (.inl (part _ hm))
 ·exact .inl (.inr (part _ hm))
 ·rw [ON] at hm ⊢
  have h1:ps.length<=1:=by simpa using hm.1
  have h2:=(OY.mp h).1;have h0:i=0:=by omega
  exact .inr ⟨by rw [h0];rfl,part _ hm.2⟩
section
variable {X:Cx} {pins:ar} {φ:Fr} {g g0:G} {L L':Live} {s:OH} {ys:List T} {us:List OE} {ps:List (T × T)} {a it l:Pf} {ol:Obj} {A:Pm} {R:Result->OH->Prop}
theorem uO (hu:A.in1.units+8<cLine) (ch:List Pf) (W:Nat->Heap->Prop) (hm:eF (ps.map (·.1))=true) (hlen:ps.length<=100000) (tT:∀c∈ch,c≠a)
  (frame:∀i h h',W i h->(∀c,c≠a->h'.get? c=h.get? c)->W i h')
  (next:∀{E:OE->OH->Prop} (i:Nat) (s':OH) (g':G) (p:T × T) (Q:Option OE->OH->Prop),ps[i]?=some p->Le g0 g'->a<s'.heap.objs.size->(∀h1,(∀b o,b∉ch->s'.heap.get? b=some o->h1.get? b=some o)->Inv X pins φ g' (.aO (mZ (ps.take i))::L) { s' with heap:=h1 })->W i s'.heap ->
   (∀h1 t o uk uv n,W (i+1) h1->(∀b o,b∉ch->s'.heap.get? b=some o->h1.get? b=some o)->h1.get? t=some o->o.cls=.type "tuple"->o.data=.seq #[uk,uv] n->RT g' none p.1 uk->RT g' none p.2 uv->Q (some (.ref t)) { s' with heap:=h1 })->O3 (model X.prog X.w) A.in1 (pyNext (.ref it)) Q E s')
  (last:∀{E:OE->OH->Prop} (s':OH) (Q:Option OE->OH->Prop),W ps.length s'.heap->(∀h2,(∀b o,b∉ch->s'.heap.get? b=some o->h2.get? b=some o)->Q none { s' with heap:=h2 })->O3 (model X.prog X.w) A.in1 (pyNext (.ref it)) Q E s')
  (fin:∀s' g',Le g0 g'->Inv X pins φ g' (.aO (mZ ps)::L) s'->RT g' none (.ref L.length) (.ref a)->R (.ok (.ret .none)) s') :
  ∀(k i:Nat) (s':OH) (g':G),ps.length - i=k->i<=ps.length->Le g0 g'->Inv X pins φ g' (.aO (mZ (ps.take i))::L) s'->RT g' none (.ref L.length) (.ref a)->(∀c∈ch,eI X pins g'.H c)->W i s'.heap ->
   O3 (model X.prog X.w) A.in1 (Builtin.«dict.update.loop» ⟨[.ref a,.ref it,rawInt (i:Int),.none],[]⟩) (fun fin s'=>match fin with|.done f=>R (.ok f) s'|.again c'=>c'.quiet=true/\codeAny (model X.prog X.w) A c' R s') (fun e s'=>R (.error e) s') s':=by
 intro k;induction k with
 | zero =>
  intro i s' g' hk hi l0 J rd hf hW;obtain rfl:i=ps.length:=by omega
  unfold Builtin.«dict.update.loop»;dsimp only [rawInt];refine OB (last s' _ hW fun h2 hx=>?_);dsimp only;show O3 _ _ (Builtin.Dict.addKeywords a [] >>= _) _ _ _
  refine OB (OC (OC ?_));rw [Pk (OR _)] at J;exact fin _ g' l0 (J.turned (t':=s'.toks) (ch:=ch) hx hf) rd
 | succ k ih =>
  intro i s' g' hk hi l0 J rd hf hW;have LK:i<ps.length:=by omega
  have ep:=Ge9 LK;have LL:a<s'.heap.objs.size:=by
   obtain⟨p,o,es,ep,ea,hp,qV,N2,D2⟩:=J.q8 rd (by unfold at_;rw [if_pos rfl]);cases ea;exact O4 D2.ho
  unfold Builtin.«dict.update.loop»;dsimp only [rawInt];refine OB (next i s' g' _ _ ep l0 LL (fun h1 k=>J.turned (t':=s'.toks) (ch:=ch) k hf) hW fun h1 t ot uk uv n LM sH Hk BI HT rk rv=>?_);dsimp only;have J1:=J.turned (t':=s'.toks) (ch:=ch) sH hf
  have LN:Um { s' with heap:=h1 } (.ref t) "tuple":=⟨ot,Hk,BI⟩;refine OB (wpAny_holding (OB ?_));have HU:∀{E':OE->OH->Prop} {Q':List OE->OH->Prop},Q' [uk,uv] { s' with heap:=h1 }->O3 (model X.prog X.w) A.in1 (UI (.ref t)) Q' E' { s' with heap:=h1 }:=fun {E' Q'} hq'=>by
   unfold UI;refine OB (wpAny_typeOf LN ?_);rw [if_pos (by decide)];refine OB (wpAny_seqItems Hk HT (OC ?_));exact hq'
  refine wpAny_tryCatch (HU ?_);dsimp only;have hz:(mZ (ps.take i)).length<O6:=by
   have z:=yq (ps.take i);rw [Qd] at z;rw [P9];omega
  refine wpAny_holding (wpAny_mono (q9 (n:=L.length) (E:=fun e s'=>R (.error e) s') J1 hu (by unfold at_;rw [if_pos rfl]) rd rk rv hz (uN hm ep)) (fun _ s2 h2=>?_) fun _ _ e=>e);obtain⟨⟨g2,l2,J2,hH⟩,LO⟩:=h2;refine OC ?_;refine⟨plainId_quiet plain_dul _,codeAny_builtin entry_dul ?_⟩;rw [Pw plain_dul _];have ei:((i:Int)+1)=((i+1:Nat):Int):=by push_cast;rfl
  rw [ei];have J3:Inv X pins φ g2 (.aO (mZ (ps.take (i+1)))::L) s2:=by
   rw [uM ep];have z:put (.aO (mZ (ps.take i))::L) L.length (.aO (dput (mZ (ps.take i)) ps[i].1 ps[i].2))=.aO (dput (mZ (ps.take i)) ps[i].1 ps[i].2)::L:=by unfold put;rw [if_pos rfl]
   rw [<- z];exact J2
  exact ih (i+1) s2 g2 (by omega) (by omega) (l0.trans l2) J3 (rd.le l2) (fun c hc=>⟨by rw [hH c (tT c hc)];exact(hf c hc).1,(hf c hc).2⟩) (frame _ _ _ LM LO)
theorem uP {u:OE} {x y:T} {g':G} {s':OH} (J:Inv X pins φ g' L s') (ru:RT g' none (.tup [x,y]) u):∃t o uk uv n,u=.ref t/\s'.heap.get? t=some o/\o.cls=.type "tuple"/\o.data=.seq #[uk,uv] n/\RT g' none x uk/\RT g' none y uv:=by
 obtain⟨t,LR,et,⟨ot,Hk,BI,n,HT⟩,rt,_⟩:=J.tup ru;obtain⟨uk,uv,e2,rk,rv⟩:=il rt;have e3:LR = #[uk,uv]:=by apply Vt;simpa using e2
 subst e3;exact⟨t,ot,uk,uv,n,et,Hk,BI,HT,rk,rv⟩
theorem uQ {i:Nat} {p:T × T} (r0:bz g0 ys us) (hp:prsOf ys=some ps) (ep:ps[i]?=some p):∃u,us[i]?=some u/\RT g0 none (.tup [p.1,p.2]) u:=by
 have ey:=(prsOf_at hp).2 i p ep;have hl:=OX r0
 have hi:=(OY.mp ey).1;have eu:=Ge9 (l:=us) (i:=i) (by omega)
 exact⟨_,eu,oV r0 i _ _ ey eu⟩
theorem uR (r0:bz g0 ys us) (hp:prsOf ys=some ps):us.length<=ps.length:=by
 have h1:=OX r0;have h2:=(prsOf_at hp).1
 omega
theorem rf {t:T} {u:OE} {w:T} (hu:X.A.units+20<cLine) (I:Inv X pins φ g L s) (ru:RT g none t u) (ht:vw L t=.lst ys\/vw L t=.tup ys) (h:DC ys L=.ok w L'):O3 (model X.prog X.w) X.A (call (.type "dict") [u]) (EP X pins φ g w L') F0 s:=by
 have ip:X.A.in1.in1.units+8<cLine:=by show X.A.units+1+1+8<cLine;omega
 unfold DC at h;split at h
 ·rename_i ps DM
  obtain⟨⟨hm,hlen⟩,h⟩:=ao h;cases h;have nu:g.H s.heap.objs.size=none:=I.fresh
  have big:(s.heap.objs.size == sysModules)=false:=by
   have h1:sysModules<s.heap.objs.size:=Rw (by decide) (I.mod.glob.keeps I.bk).lt;simpa using QX h1
  have J0:=I.new (c:=.aO []) (o:={ cls:=.type "dict",data:=.dict #[] }) (h':=s.heap.push { cls:=.type "dict",data:=.dict #[] }) (t':=s.toks) (fun b u e=>OJ _ e) (OR _) (OM _ rfl)
   (.aO (.inr rfl) (.inl ak) ⟨rfl,rfl,rfl⟩ rfl (Pg _) rfl ⟨Rk,rfl⟩ big (fun i x e e1 _=>by simp at e1) (fun i x e e1 _=>by simp at e1) fun i x e e1 _=>by simp at e1)
  have l0:=Le.new (o:={ cls:=.type "dict",data:=.dict #[] }) nu;have rd:RT (g.new s.heap.objs.size { cls:=.type "dict",data:=.dict #[] }) none (.ref L.length) (.ref s.heap.objs.size):=by
   have:=I.rel.len;exact .ref (p:=(s.heap.objs.size,s.heap.objs.size)) (by show at_ ((_,_)::g.α) _=_;rw [<- this];exact fW)
  refine callType_codes (Q₁:=fun obj s₁=>obj=.ref s.heap.objs.size/\s₁={ s with heap:=s.heap.push { cls:=.type "dict",data:=.dict #[] } }) PySem.F.kt_called_dict (PySem.F.kt_typeCall_dict_1 _) PySem.F.entry_dict_init (kt_code_dict_new _ ⟨rfl,rfl⟩) ?_;rintro obj s₁ ⟨rfl,rfl⟩;have EG:Um { s with heap:=s.heap.push { cls:=.type "dict",data:=.dict #[] } } (.ref s.heap.objs.size) "dict":=⟨_,OM _ rfl,rfl⟩
  refine⟨EG,PySem.F.args_dict_init_2 _ _,?_⟩;unfold Builtin.«dict.__init__»;refine OB ?_;unfold Builtin.Dict.selfAndRest;refine OB (wpAny_notOrdered_dict EG ?_);show O3 _ _ (pure (s.heap.objs.size,[u])) _ _ _
  refine OC ?_;show O3 _ _ (Uo "dict.__init__" s.heap.objs.size u [] .none) _ _ _
  unfold Uo;obtain⟨q,v⟩:=I.view ru;rcases ht with ht|ht
  ·rw [ht] at v
   obtain⟨l,its,n,rfl,hg,rr,hz⟩:=I.lst v;have BJ:(s.heap.push { cls:=.type "dict",data:=.dict #[] }).get? l=some { cls:=.type "list",data:=.seq its n }:=OJ _ hg
   refine OB (wpAny_typeOf (T:="list") ⟨_,BJ,rfl⟩ ?_);rw [if_pos (by decide)];refine OB (BH BJ rfl rfl rfl I.ok.hd fun h1 BK e hx=>?_);rw [if_pos (show(none:Option OE).isNone=true from rfl)];refine OB (wpAny_rule ?_);have yr:=hx.keeps _ _ BJ
   have J1:=J0.kept (t':=BK) (h':=h1) fun b o e=>hx.keeps b o e
   refine OB (wpAny_pyIter_list (s:={ s with heap:=h1,toks:=BK }) (aa yr) ?_);refine OC ⟨plainId_quiet plain_dul _,codeAny_builtin entry_dul ?_⟩;rw [Pw plain_dul _];have J2:=J1.kept (t':=BK) (h':=h1.push { cls:=.type "list_iterator",data:=.fields #[.ref l,.int 0 0] }) fun b o e=>OJ _ e
   have hsz:s.heap.objs.size<h1.objs.size:=O4 (hx.keeps _ _ (OM s.heap (o:={ cls:=.type "dict",data:=.dict #[] }) rfl));refine uO (A:=X.A.in1) (a:=s.heap.objs.size) (it:=h1.objs.size) (L:=L) ip [h1.objs.size] (fun i h=>h.get? l=some { cls:=.type "list",data:=.seq its n }/\h.IsListIter h1.objs.size l i) hm hlen (fun c hc=>by rw [OK.mp hc];exact QX hsz)
    (fun i h h' ⟨q0,o,q1,q2⟩ e=>⟨(e l (O8 (O4 hg))).trans q0,o,(e _ (QX hsz)).trans q1,q2⟩) (fun i s' g' p Q ep lg _ J ⟨kE,ht⟩ hQ=>?_) (fun s' Q ⟨kE,ht⟩ hQ=>?_) (fun s' g' lg J HV=>?_)
    ps.length 0 _ _ rfl (Pg _) (Le.refl _) J2 rd (fun c hc=>by rw [OK.mp hc];exact J1.ud (OR _) (J1.hok.fresh (OR _))) ⟨OJ _ yr,_,OM _ rfl,rfl,rfl⟩
   ·obtain⟨u,eu,ru⟩:=uQ (rr.le l0) DM ep
    refine wpAny_pyNext_list_item (x:=u) ht (aa kE) (by simpa using eu) fun h2 a b=>?_
    have kp:∀c o,c∉[h1.objs.size]->s'.heap.get? c=some o->h2.get? c=some o:=fun c o hc e=>(b.2 c fun z=>hc (by simp [z])).trans e
    obtain⟨t,o,uk,uv,n,rfl,e1,e2,e3,rk,rv⟩:=uP (J h2 kp) (ru.le lg);exact hQ h2 t o uk uv n ⟨kp l _ (by simpa using O8 (Rw (O4 hg) hsz)) kE,a⟩ kp e1 e2 e3 rk rv
   ·exact wpAny_pyNext_list_end I.ok.hd ht (aa kE) (by simpa using uR (rr.le l0) DM) fun h2 hx=>hQ h2 fun c o hc e=>hx c o (fun z=>hc (by simp [z])) e
   ·exact⟨rfl,g',l0.trans lg,J,HV⟩
  ·rw [ht] at v
   obtain⟨l,its,n,sl,rfl,hg,rr,hz⟩:∃l its n sl,u=.ref l/\s.heap.get? l=some ⟨.type "tuple",none,.seq its n,sl⟩/\bz g ys its.toList/\ys.length<=O6:=by
    have v':=v;cases v with
    | tup hk hc hd hz hl hi =>
     rename_i a o its n;obtain⟨oc,od,dt,sl⟩:=o;obtain⟨h1,h2⟩:=hc;simp only at h1 h2 hd;subst h1 h2 hd;exact⟨_,_,_,_,rfl,I.kn hk,cC (by simpa using hl) fun i x v e1 e2=>hi i x v e1 (by simpa using e2),hz⟩
   have pE:∀{h:Heap},h.get? l=some ⟨.type "tuple",none,.seq its n,sl⟩->h.IsTuple l its:=fun e=>⟨_,e,rfl,n,rfl⟩
   have BJ:(s.heap.push { cls:=.type "dict",data:=.dict #[] }).get? l=some ⟨.type "tuple",none,.seq its n,sl⟩:=OJ _ hg;refine OB (wpAny_typeOf (T:="tuple") ⟨_,BJ,rfl⟩ ?_);rw [if_pos (by decide)];refine OB (noKeysT BJ I.ok.hd fun h1 BK e hx=>?_);rw [if_pos (show(none:Option OE).isNone=true from rfl)];refine OB (wpAny_rule ?_);have yr:=hx.keeps _ _ BJ
   have J1:=J0.kept (t':=BK) (h':=h1) fun b o e=>hx.keeps b o e
   refine OB (wpAny_pyIter_tuple (s:={ s with heap:=h1,toks:=BK }) (pE yr) ?_);refine OC ⟨plainId_quiet plain_dul _,codeAny_builtin entry_dul ?_⟩;rw [Pw plain_dul _];have J2:=J1.kept (t':=BK) (h':=h1.push { cls:=.type "tuple_iterator",data:=.fields #[.ref l,.int 0 0] }) fun b o e=>OJ _ e
   have hsz:s.heap.objs.size<h1.objs.size:=O4 (hx.keeps _ _ (OM s.heap (o:={ cls:=.type "dict",data:=.dict #[] }) rfl));refine uO (A:=X.A.in1) (a:=s.heap.objs.size) (it:=h1.objs.size) (L:=L) ip [h1.objs.size] (fun i h=>h.get? l=some ⟨.type "tuple",none,.seq its n,sl⟩/\h.IsTupleIter h1.objs.size l i) hm hlen (fun c hc=>by rw [OK.mp hc];exact QX hsz)
    (fun i h h' ⟨q0,o,q1,q2⟩ e=>⟨(e l (O8 (O4 hg))).trans q0,o,(e _ (QX hsz)).trans q1,q2⟩) (fun i s' g' p Q ep lg _ J ⟨kE,ht⟩ hQ=>?_) (fun s' Q ⟨kE,ht⟩ hQ=>?_) (fun s' g' lg J HV=>?_)
    ps.length 0 _ _ rfl (Pg _) (Le.refl _) J2 rd (fun c hc=>by rw [OK.mp hc];exact J1.ud (OR _) (J1.hok.fresh (OR _))) ⟨OJ _ yr,_,OM _ rfl,rfl,rfl⟩
   ·obtain⟨u,eu,ru⟩:=uQ (rr.le l0) DM ep
    refine wpAny_pyNext_tuple_item (x:=u) ht (pE kE) (by simpa using eu) fun h2 a b=>?_
    have kp:∀c o,c∉[h1.objs.size]->s'.heap.get? c=some o->h2.get? c=some o:=fun c o hc e=>(b.2 c fun z=>hc (by simp [z])).trans e
    obtain⟨t,o,uk,uv,n,rfl,e1,e2,e3,rk,rv⟩:=uP (J h2 kp) (ru.le lg);exact hQ h2 t o uk uv n ⟨kp l _ (by simpa using O8 (Rw (O4 hg) hsz)) kE,a⟩ kp e1 e2 e3 rk rv
   ·exact wpAny_pyNext_tuple_end I.ok.hd ht (pE kE) (by simpa using uR (rr.le l0) DM) fun h2 hx=>hQ h2 fun c o hc e=>hx c o (fun z=>hc (by simp [z])) e
   ·exact⟨rfl,g',l0.trans lg,J,HV⟩
 ·cases h
theorem sU (hu:X.A.units+20<cLine):dN X (.type "dict") jb:=fun {_ _ g L s _ _ _ _} I r h=>by
 unfold jb at h;split at h
 ·obtain⟨u,rfl,ru⟩:=cY r
  split at h
  ·exact rf hu I ru (.inl (by assumption)) h
  ·exact rf hu I ru (.inr (by assumption)) h
  ·rename_i ev
   cases h;obtain⟨q,v⟩:=I.view ru;rw [ev] at v;obtain⟨a,o,ep,rfl,_,_,hs,D⟩:=I.oY v;refine PySem.kt_call_dict hs D.dictOf (by decide) fun h' hm sb=>?_
   obtain⟨od,es,en,e1,e2,e3,_,e4,_⟩:=hm;have kp:∀b u,s.heap.get? b=some u->h'.get? b=some u:=fun b u e=>(sb.2 b (O8 (O4 e))).trans (OJ _ e)
   obtain rfl:es = #[]:=by
    have:=Pairs.length e4;exact Sw.mp (by simpa using this)
   have big:(s.heap.objs.size == sysModules)=false:=by
    have h1:sysModules<s.heap.objs.size:=Rw (by decide) (I.mod.glob.keeps I.bk).lt;simpa using QX h1
   refine⟨_,Le.new I.fresh,I.new (t':=s.toks) kp (OR _) e1 (.aO (.inr rfl) (.inl ak) e2 e3 (Pg _) rfl ⟨Rk,rfl⟩ big (fun i x e e1 _=>by simp at e1) (fun i x e e1 _=>by simp at e1) fun i x e e1 _=>by simp at e1),?_⟩;have:=I.rel.len
   exact .ref (p:=(s.heap.objs.size,s.heap.objs.size)) (by show at_ ((_,_)::g.α) _=_;rw [<- this];exact fW)
  ·cases h
 ·cases h
end
end M
namespace Ts
open PySem PySem.W PySem.Calls PyProof.Rows
structure WO (lt:Nat->Nat->Bool):Prop where
 gZ:∀a b,lt a b=true->lt b a=false
 tr:∀a b c,lt b a=false->lt c b=false->lt c a=false
theorem WO.pF {lt:Nat->Nat->Bool} (W:WO lt) (a:Nat):lt a a=false:=by
 cases h:lt a a with
 | false=>rfl
 | true=>have:=W.gZ a a h;rw [h] at this;exact this
theorem WO.up {lt:Nat->Nat->Bool} (W:WO lt) {a b c:Nat} (h1:lt a b=true) (h2:lt c b=false):lt a c=true:=by
 cases h:lt a c with
 | true=>rfl
 | false=>have:=W.tr b c a h2 h;rw [h1] at this;exact this.symm
theorem WO.dn {lt:Nat->Nat->Bool} (W:WO lt) {a b c:Nat} (h1:lt a b=true) (h2:lt a c=false):lt c b=true:=by
 cases h:lt c b with
 | true=>rfl
 | false=>have:=W.tr b c a h h2;rw [h1] at this;exact this.symm
abbrev aG (p:Array Nat) (lo k:Nat):Nat:=p.getD (lo+k) 0
noncomputable def cq (lt:Nat->Nat->Bool) (p:Array Nat) (lo m:Nat):Prop:=∀i j,i<j->j<m->lt (aG p lo j) (aG p lo i)=false
noncomputable def sW (lt:Nat->Nat->Bool) (p:Array Nat) (lo m:Nat):Prop:=∀i j,i<j->j<m->lt (aG p lo i) (aG p lo j)=false
noncomputable def rg (lt:Nat->Nat->Bool) (p:Array Nat) (lo a b:Nat):Prop:=∀i j,a<=i->i<b->a<=j->j<b->lt (aG p lo i) (aG p lo j)=false
structure Sm (lo hi:Nat) (p q:Array Nat):Prop where
 sz:q.size=p.size
 pm:q.toList.Perm p.toList
 out:∀k,k<lo\/hi<=k->q.getD k 0=p.getD k 0
theorem Sm.refl {lo hi:Nat} (p:Array Nat):Sm lo hi p p:=⟨rfl,.refl _,fun _ _=>rfl⟩
theorem Sm.trans {lo hi:Nat} {p q r:Array Nat} (a:Sm lo hi p q) (b:Sm lo hi q r):Sm lo hi p r:=⟨b.sz.trans a.sz,b.pm.trans a.pm,fun k h=>(b.out k h).trans (a.out k h)⟩
theorem Sm.mono {lo hi lo' hi':Nat} {p q:Array Nat} (a:Sm lo hi p q) (h1:lo'<=lo) (h2:hi<=hi'):Sm lo' hi' p q:=⟨a.sz,a.pm,fun k h=>a.out k (by omega)⟩
theorem nC {p:Array Nat} {i j:Nat} (hj:j<=p.size) (k:Nat):(kas_rev p i j).getD k 0=if i<=k/\k<j then p.getD (i+j - 1 - k) 0 else p.getD k 0:=by
 rw [Pc,Pc,Pc];unfold kas_rev;rw [getElem?_mirror_all hj k];split <;> rfl
theorem uS {p:Array Nat} {src d:Nat} (hs:src<p.size) (hd:d<=src) (k:Nat):(bubble p src d).getD k 0=if k=src - d then p.getD src 0 else if src - d<k/\k<=src then p.getD (k - 1) 0 else p.getD k 0:=by
 rw [Pc,Pc,Pc,Pc];rw [getElem?_bubble hs d hd k];split
 ·rfl
 ·split <;> rfl
theorem ir {p:Array Nat} {lo i j:Nat} (hj:lo+j<=p.size) (k:Nat):aG (kas_rev p (lo+i) (lo+j)) lo k=if i<=k/\k<j then aG p lo (i+j - 1 - k) else aG p lo k:=by
 unfold aG;rw [nC hj];by_cases h:i<=k/\k<j
 ·rw [if_pos h,if_pos (by omega)]
  congr 1;omega
 ·rw [if_neg h,if_neg (by omega)]
theorem l6 {p:Array Nat} {lo i j hi:Nat} (hj:j<=p.size) (h1:lo<=i) (h2:j<=hi):Sm lo hi p (kas_rev p i j):=⟨mirror_size _ _ _ _,TC.mp (mirror_perm _ _ _ _),fun k h=>by rw [nC hj,if_neg (by omega)]⟩
section
variable {lt:Nat->Nat->Bool} {p:Array Nat} {lo m a:Nat}
theorem cq.more (W:WO lt) (h:cq lt p lo m) (h1:1<=m) (hl:lt (aG p lo m) (aG p lo (m - 1))=false):cq lt p lo (m+1):=fun i j gu hj=>by
 by_cases e:j=m
 ·subst e
  by_cases e2:i=j - 1
  ·subst e2;exact hl
  ·exact W.tr _ _ _ (h i (j - 1) (by omega) (by omega)) hl
 ·exact h i j gu (by omega)
theorem sW.more (W:WO lt) (h:sW lt p lo m) (h1:1<=m) (hl:lt (aG p lo (m - 1)) (aG p lo m)=false):sW lt p lo (m+1):=fun i j gu hj=>by
 by_cases e:j=m
 ·subst e
  by_cases e2:i=j - 1
  ·subst e2;exact hl
  ·exact W.tr _ _ _ hl (h i (j - 1) (by omega) (by omega))
 ·exact h i j gu (by omega)
theorem sW.rev (hm:lo+m<=p.size) (h:sW lt p lo m) (he:rg lt p lo a m):sW lt (kas_rev p (lo+a) (lo+m)) lo m:=fun i j gu hj=>by
 rw [ir hm,ir hm];by_cases h1:a<=i
 ·rw [if_pos ⟨h1,by omega⟩,if_pos ⟨by omega,hj⟩]
  exact he _ _ (by omega) (by omega) (by omega) (by omega)
 ·rw [if_neg (by omega)]
  by_cases h2:a<=j
  ·rw [if_pos ⟨h2,hj⟩]
   exact h _ _ (by omega) (by omega)
  ·rw [if_neg (by omega)]
   exact h i j gu hj
theorem rg.one (W:WO lt):rg lt p lo (m+1 - (0+1)) (m+1):=fun i j a1 a2 a3 a4=>by
 obtain rfl:i=j:=by omega
 exact W.pF _
theorem cq.one (h:m<=1):cq lt p lo m:=fun i j a b=>absurd a (by omega)
theorem rg.more (W:WO lt) {q:Nat} (he:rg lt p lo (m - (q+1)) m) (hq:q+1<=m) (e:lt (aG p lo m) (aG p lo (m - 1))=false) (e2:lt (aG p lo (m - 1)) (aG p lo m)=false):rg lt p lo (m+1 - (q+1+1)) (m+1):=fun i j a1 a2 a3 a4=>by
 by_cases c1:i=m
 ·by_cases c2:j=m
  ·rw [c1,c2];exact W.pF _
  ·rw [c1];exact W.tr _ _ _ (he (m - 1) j (by omega) (by omega) (by omega) (by omega)) e
 ·by_cases c2:j=m
  ·rw [c2];exact W.tr _ _ _ e2 (he i (m - 1) (by omega) (by omega) (by omega) (by omega))
  ·exact he i j (by omega) (by omega) (by omega) (by omega)
theorem rg.all (W:WO lt) (h:cq lt p lo m) (h1:1<=m) (e:lt (aG p lo 0) (aG p lo (m - 1))=false):rg lt p lo 0 m:=fun i j _ hi _ hj=>by
 have z1:lt (aG p lo (m - 1)) (aG p lo j)=false:=by
  by_cases cj:j=m - 1
  ·subst cj;exact W.pF _
  ·exact h j (m - 1) (by omega) (by omega)
 have z2:lt (aG p lo i) (aG p lo 0)=false:=by
  by_cases ci:i=0
  ·subst ci;exact W.pF _
  ·exact h 0 i (by omega) hi
 exact W.tr _ _ _ (W.tr _ _ _ z1 e) z2
theorem sW.up (hm:lo+m<=p.size) (h:sW lt p lo m):cq lt (kas_rev p lo (lo+m)) lo m:=fun i j gu hj=>by
 have:=ir (lo:=lo) (i:=0) hm;rw [UW] at this;rw [this,this,if_pos ⟨by omega,hj⟩,if_pos ⟨by omega,by omega⟩];exact h _ _ (by omega) (by omega)
end
section
variable {prog:Pp} {w:Qn} {A:Pm} {E:OE->OH->Prop} {s:OH} {κ:SortKind} {f:Nat->Keyed} {lt:Nat->Nat->Bool} {N:Nat} {p:Array Nat} {pd:Array (Nat × Nat × Nat)} {g lo:Nat}
noncomputable def sX (prog:Pp) (w:Qn) (A:Pm) (s:OH) (κ:SortKind) (f:Nat->Keyed) (lt:Nat->Nat->Bool) (N:Nat):Prop :=
 ∀i j,i<N->j<N->O3 (model prog w) A (keyLt' κ (f i).1 (f j).1) (fun b s'=>s'=s/\b=lt i j) (fun _ _=>False) s
abbrev St (κ:SortKind) (f:Nat->Keyed) (p:Array Nat) (pd:Array (Nat × Nat × Nat)) (g:Nat):SortSt:=U4 κ (p.map f) pd g none
noncomputable def Al (N:Nat) (p:Array Nat):Prop:=∀k,k<p.size->p.getD k 0<N
theorem uT {st:SortSt} {i j:Nat} {Q:Option Bool->SortSt->Prop} (hc:sX prog w A s κ f lt N) (hk:kindOf st=κ) (hi:i<N) (hj:j<N) (h:Q (some (lt i j)) st):wpS (model prog w) A E s (lt' (f i) (f j)) Q st:=by
 rw [lt'_eq];refine wpS_bind (wpS_get ?_);rw [hk];refine wpS_bind (wpS_lift (wpAny_attempt (wpAny_mono (hc i j hi hj) (fun b s' hb=>?_) fun _ _ hF=>hF.elim)));obtain⟨rfl,rfl⟩:=hb;exact⟨rfl,wpS_pure h⟩
theorem sY {st:SortSt} {i:Nat} {Q:Keyed->SortSt->Prop} (hi:i<p.size) (h:Q (f (p.getD i 0)) st):wpS (model prog w) A E s (elem' (p.map f) i) Q st:=by
 have e:p.getD i 0=p[i]:=by simp [PJ,hi]
 rw [e] at h;rw [elem'_eq];have e2:(p.map f)[i]?=some (f p[i]):=by simp [hi]
 rw [e2];exact wpS_pure h
theorem iu {i j:Nat} {Q:Option Bool->SortSt->Prop} (hc:sX prog w A s κ f lt N) (ha:Al N p) (hi:i<p.size) (hj:j<p.size) (h:Q (some (lt (p.getD i 0) (p.getD j 0))) (St κ f p pd g)):wpS (model prog w) A E s (ltAt' i j) Q (St κ f p pd g):=by
 rw [ltAt'_eq];exact wpS_bind (wpS_get (wpS_bind (sY hi (wpS_bind (sY hj (uT hc rfl (ha i hi) (ha j hj) h))))))
theorem rm {i j:Nat} {Q:Unit->SortSt->Prop} (h:Q () (St κ f (kas_rev p i j) pd g)):wpS (model prog w) A E s (reverseSlice' i j) Q (St κ f p pd g):=by
 rw [reverseSlice'_eq];refine wpS_modify ?_;have e:mirror (p.map f) i j ((j - i) / 2)=(mirror p i j ((j - i) / 2)).map f:=kas_swaps_map f (fun k=>i+k) (fun k=>j - 1 - k) _ p
 show Q () (U4 κ (mirror (p.map f) i j ((j - i) / 2)) pd g none);rw [e];exact h
theorem EH {k l:Nat} {Q:Unit->SortSt->Prop} (h:Q () (St κ f (bubble p k (k - l)) pd g)):wpS (model prog w) A E s (moveDown' k l) Q (St κ f p pd g):=by
 rw [moveDown'_eq];refine wpS_modify ?_;have e:bubble (p.map f) k (k - l)=(bubble p k (k - l)).map f:=kas_swaps_map f (fun i=>k - i) (fun i=>k - i - 1) _ p
 show Q () (U4 κ (bubble (p.map f) k (k - l)) pd g none);rw [e];exact h
theorem Al.of {q:Array Nat} (ha:Al N p) (h:q.toList.Perm p.toList):Al N q:=fun k hk=>by
 have e:q.getD k 0=q[k]:=by simp [PJ,hk]
 rw [e];have m:q[k]∈p.toList:=h.mem_iff.mp (by simp)
 obtain⟨i,hi,e⟩:=QI.mp m;have hi':i<p.size:=by simpa using hi
 have:=ha i hi';rw [show p.getD i 0=p[i] by simp [PJ,hi']] at this;rw [<- e];exact this
theorem Sm.al {q:Array Nat} {lo hi:Nat} (h:Sm lo hi p q) (ha:Al N p):Al N q:=ha.of h.pm
theorem share {M:Model} {σ α ι:Type} {G:Prop} {C:ι->Prop} {m:StateT σ Sem α} {Q:α->σ->Prop} {g:ι->σ} (h:(∀i,C i->wpS M A E s m Q (g i))->G) (k:∀i,C i->wpS M A E s m Q (g i)):G:=h k
theorem yt {fZ:Nat} {Q:Option Nat->SortSt->Prop} (W:WO lt) (hc:sX prog w A s κ f lt N) (ha:Al N p) (h1:1<=fZ) (hz:lo+fZ<=p.size)
  (fin:∀n p',1<=n->n<=fZ->Sm lo (lo+fZ) p p'->cq lt p' lo n->Q (some n) (St κ f p' pd g)):wpS (model prog w) A E s (countRun' lo fZ) Q (St κ f p pd g):=by
 rw [countRun'_eq];dsimp only;refine wpS_bind (wpS_mono (wpS_forRange (I:=fun i c st=>c=(none,i)/\st=St κ f p pd g/\cq lt p lo i) (Q:=fun c st=>∃n,c=(none,n)/\st=St κ f p pd g/\1<=n/\n<=fZ/\cq lt p lo n/\(n<fZ->lt (aG p lo n) (aG p lo (n - 1))=true)) ?_ ?_ ⟨rfl,rfl,cq.one (OR _)⟩) ?_)
 ·rintro i c st hi yh ⟨rfl,rfl,hr⟩
  refine wpS_bind (iu hc ha (by omega) (by omega) ?_);dsimp only;rw [show lo+i - 1=lo+(i - 1) by omega];cases e:lt (p.getD (lo+i) 0) (p.getD (lo+(i - 1)) 0) with
  | true=>exact wpS_pure ⟨_,rfl,rfl,hi,by omega,hr,fun _=>e⟩
  | false=>exact wpS_pure ⟨rfl,rfl,hr.more W hi e⟩
 ·rintro c st ⟨rfl,rfl,hr⟩
  exact⟨_,rfl,rfl,by omega,by omega,hr,fun z=>by omega⟩
 ·rintro c st ⟨n,rfl,rfl,Hl,xW,hr,hl⟩
  dsimp only;split
  ·exact wpS_pure (fin n p Hl xW (Sm.refl p) hr)
  rename_i hne;have bT:n<fZ:=Nat.lt_of_le_of_ne xW fun z=>hne (beq_iff_eq.mpr z)
  have hd:=hl bT;apply share (C:=fun p':Array Nat=>Sm lo (lo+fZ) p p'/\sW lt p' lo (n+1)) (g:=fun p'=>St κ f p' pd g)
  ·intro key
   split
   ·refine wpS_bind (iu hc ha (by omega) (by omega) ?_)
    dsimp only;rw [show lo+n - 1=lo+(n - 1) by omega];cases e:lt (p.getD lo 0) (p.getD (lo+(n - 1)) 0) with
    | true=>exact wpS_pure (fin n p Hl xW (Sm.refl p) hr)
    | false =>
     have hsz:lo+n<=p.size:=by omega
     have all:=rg.all W hr Hl e;have hf:=sW.rev hsz (fun i j gu hj=>all i j (Pg _) (Rw gu hj) (Pg _) hj) all
     have a0:=ir (i:=0) hsz;rw [UW] at hf a0;refine wpS_bind (rm (key _ ⟨l6 hsz (OR _) (by omega),hf.more W Hl ?_⟩));rw [a0,a0,if_pos ⟨Pg _,by omega⟩,if_neg (fun z=>Qj _ z.2),show 0+n - 1 - (n - 1)=0 by omega];exact W.tr _ _ _ (W.gZ _ _ hd) e
   ·obtain rfl:n=1:=by omega
    refine key p ⟨Sm.refl p,fun i j gu hj=>?_⟩;obtain rfl:i=0:=by omega
    obtain rfl:j=1:=by omega
    exact W.gZ _ _ hd
  ·rintro p1 ⟨BL,LS⟩
   refine wpS_bind (wpS_lift (wpAny_rule ⟨rfl,?_⟩));refine wpS_bind (wpS_mono (wpS_forRange (I:=fun i c st=>∃q p',c=(none,i,q)/\st=St κ f p' pd g/\Sm lo (lo+fZ) p p'/\q+1<=i/\sW lt p' lo i/\rg lt p' lo (i - (q+1)) i) (Q:=fun c st=>∃m q p',c=(none,m,q)/\st=St κ f p' pd g/\Sm lo (lo+fZ) p p'/\m<=fZ/\q+1<=m/\sW lt p' lo m/\rg lt p' lo (m - (q+1)) m) ?_ ?_ ⟨0,p1,rfl,rfl,BL,by omega,LS,rg.one W⟩) ?_)
   ·rintro m c st hi yh ⟨q,p2,rfl,rfl,hs,hq,h,he⟩
    have ro:=hs.al ha;have sz:=hs.sz
    dsimp only;refine wpS_bind (iu hc ro (by omega) (by omega) ?_);dsimp only;rw [show lo+m - 1=lo+(m - 1) by omega];have hsz:lo+m<=p2.size:=by omega
    cases e:lt (p2.getD (lo+m) 0) (p2.getD (lo+(m - 1)) 0) with
    | true =>
     simp only [if_true];split
     ·rw [show lo+m - (q+1)=lo+(m - (q+1)) by omega]
      have HW:=h.rev hsz he;refine wpS_bind (rm (wpS_pure ⟨0,_,rfl,rfl,hs.trans (l6 hsz (by omega) (by omega)),by omega,HW.more W (by omega) ?_,rg.one W⟩));rw [ir hsz,ir hsz,if_pos ⟨by omega,by omega⟩,if_neg (fun z=>Qj _ z.2),show m - (q+1)+m - 1 - (m - 1)=m - (q+1) by omega];exact W.tr _ _ _ (W.gZ _ _ e) (he (m - (q+1)) (m - 1) (OR _) (by omega) (by omega) (by omega))
     ·exact wpS_pure ⟨0,p2,rfl,rfl,hs,by omega,h.more W (by omega) (W.gZ _ _ e),rg.one W⟩
    | false =>
     simp only [OQ,if_false];refine wpS_bind (iu hc ro (by omega) (by omega) ?_);dsimp only;cases e2:lt (p2.getD (lo+(m - 1)) 0) (p2.getD (lo+m) 0) with
     | true=>exact wpS_pure ⟨m,q,p2,rfl,rfl,hs,by omega,hq,h,he⟩
     | false=>exact wpS_pure ⟨q+1,p2,rfl,rfl,hs,by omega,h.more W (by omega) e2,he.more W hq e e2⟩
   ·rintro c st ⟨q,p2,rfl,rfl,hs,hq,h,he⟩
    exact⟨_,q,p2,rfl,rfl,hs,by omega,hq,h,he⟩
   ·rintro c st ⟨m,q,p2,rfl,rfl,hs,hm,hq,h,he⟩
    dsimp only;have sz:=hs.sz
    have hsz:lo+m<=p2.size:=by omega
    apply share (C:=fun p':Array Nat=>Sm lo (lo+fZ) p p'/\sW lt p' lo m) (g:=fun p'=>St κ f p' pd g)
    ·intro key
     split
     ·rw [show lo+m - (q+1)=lo+(m - (q+1)) by omega]
      exact wpS_bind (rm (key _ ⟨hs.trans (l6 hsz (by omega) (by omega)),h.rev hsz he⟩))
     ·exact key _ ⟨hs,h⟩
    ·rintro p3 ⟨Kv,h3⟩
     have N3:=Kv.sz;have HX:=Kv.trans (l6 (lo:=lo) (i:=lo) (j:=lo+m) (hi:=lo+fZ) (by omega) (OR _) (by omega))
     have N4:=HX.sz;have LU:=HX.al ha
     refine wpS_bind (rm ?_);refine wpS_bind (wpS_mono (wpS_forRange (I:=fun i c st=>c=(none,i)/\st=St κ f (kas_rev p3 lo (lo+m)) pd g/\cq lt (kas_rev p3 lo (lo+m)) lo i) (Q:=fun c st=>∃n,c=(none,n)/\st=St κ f (kas_rev p3 lo (lo+m)) pd g/\1<=n/\n<=fZ/\cq lt (kas_rev p3 lo (lo+m)) lo n) ?_ ?_ ⟨rfl,rfl,h3.up (by omega)⟩) ?_)
     ·rintro i c st hi yh ⟨rfl,rfl,hr⟩
      refine wpS_bind (iu hc LU (by omega) (by omega) ?_);dsimp only;rw [show lo+i - 1=lo+(i - 1) by omega];cases e:lt ((kas_rev p3 lo (lo+m)).getD (lo+i) 0) ((kas_rev p3 lo (lo+m)).getD (lo+(i - 1)) 0) with
      | true=>exact wpS_pure ⟨_,rfl,rfl,by omega,by omega,hr⟩
      | false=>exact wpS_pure ⟨rfl,rfl,hr.more W (by omega) e⟩
     ·rintro c st ⟨rfl,rfl,hr⟩
      exact⟨_,rfl,rfl,by omega,by omega,hr⟩
     ·rintro c st ⟨n',rfl,rfl,h1',h2',hr'⟩
      exact wpS_pure (fin n' _ h1' h2' HX hr')
end
section
variable {prog:Pp} {w:Qn} {A:Pm} {E:OE->OH->Prop} {s:OH} {κ:SortKind} {f:Nat->Keyed} {lt:Nat->Nat->Bool} {N:Nat} {p:Array Nat} {pd:Array (Nat × Nat × Nat)} {g lo:Nat}
theorem EI {n ok:Nat} {Q:Bool->SortSt->Prop} (W:WO lt) (hc:sX prog w A s κ f lt N) (ha:Al N p) (h1:1<=ok) (h2:ok<=n) (hz:lo+n<=p.size) (hr:cq lt p lo ok)
  (fin:∀p',Sm lo (lo+n) p p'->cq lt p' lo n->Q true (St κ f p' pd g)):wpS (model prog w) A E s (binarySort' lo n ok) Q (St κ f p pd g):=by
 rw [binarySort'_eq];dsimp only;refine wpS_bind (wpS_mono (wpS_forRange (I:=fun k c st=>∃p',c=(none,())/\st=St κ f p' pd g/\Sm lo (lo+n) p p'/\cq lt p' lo k) (Q:=fun c st=>∃p',c=(none,())/\st=St κ f p' pd g/\Sm lo (lo+n) p p'/\cq lt p' lo n) ?_ ?_ ⟨p,rfl,rfl,.refl p,by rw [Nat.max_eq_left h1];exact hr⟩) ?_)
 ·rintro k c st sH m4 ⟨q,rfl,rfl,hs,hr⟩
  have sz:=hs.sz;have hq:=hs.al ha
  refine wpS_bind (wpS_mono (wpS_forRange (I:=fun i c st=>∃l r,c=(none,l,r)/\st=St κ f q pd g/\l<=r/\r<=k/\r - l+i<=k/\(∀x,x<l->lt (aG q lo k) (aG q lo x)=false)/\∀x,r<=x->x<k->lt (aG q lo k) (aG q lo x)=true)
   (Q:=fun c st=>∃l r,c=(none,l,r)/\st=St κ f q pd g/\l<=k/\(∀x,x<l->lt (aG q lo k) (aG q lo x)=false)/\∀x,l<=x->x<k->lt (aG q lo k) (aG q lo x)=true) ?_ ?_ ⟨0,k,rfl,rfl,Pg _,OR _,by omega,fun x z=>absurd z (Nat.not_lt_zero _),fun x z1 z2=>absurd z1 (Nat.not_le_of_lt z2)⟩) ?_)
  ·rintro i c st sP yh ⟨l,r,rfl,rfl,a1,a2,a3,a4,a5⟩
   dsimp only;split
   ·obtain rfl:l=r:=by omega
    exact wpS_pure ⟨l,l,rfl,rfl,a2,a4,a5⟩
   ·have m1:l<=(l+r) / 2:=by omega
    have m2:(l+r) / 2<r:=by omega
    refine wpS_bind (iu hc hq (by omega) (by omega) ?_);dsimp only;cases e:lt (q.getD (lo+k) 0) (q.getD (lo+(l+r) / 2) 0) with
    | true =>
     refine wpS_pure ⟨l,_,rfl,rfl,m1,by omega,by omega,a4,fun x b1 b2=>?_⟩;by_cases c1:x=(l+r) / 2
     ·subst c1;exact e
     ·exact W.up e (hr _ x (by omega) b2)
    | false =>
     refine wpS_pure ⟨_,r,rfl,rfl,m2,a2,by omega,fun x b1=>?_,a5⟩;by_cases c1:x=(l+r) / 2
     ·subst c1;exact e
     ·exact W.tr _ _ _ (hr x ((l+r) / 2) (by omega) (by omega)) e
  ·rintro c st ⟨l,r,rfl,rfl,a1,a2,a3,a4,a5⟩
   obtain rfl:l=r:=by omega
   exact⟨l,l,rfl,rfl,a2,a4,a5⟩
  ·rintro c st ⟨l,r,rfl,rfl,a1,a2,a3⟩
   have hb:∀x,(bubble q (lo+k) (lo+k - (lo+l))).getD x 0=_:=uS (by omega) (by omega);refine wpS_bind (EH (wpS_pure ⟨_,rfl,rfl,hs.trans ⟨bubble_size _ _ _,TC.mp (bubble_perm _ _ _),fun x hx=>?_⟩,fun i j gu hj=>?_⟩))
   ·rw [hb,if_neg (by omega),if_neg (by omega)]
   ·have xB:∀x,aG (bubble q (lo+k) (lo+k - (lo+l))) lo x=if x=l then aG q lo k else if l<x/\x<=k then aG q lo (x - 1) else aG q lo x:=fun x=>by
     unfold aG;rw [hb];by_cases c1:x=l
     ·rw [if_pos c1,if_pos (by omega)]
     ·rw [if_neg c1,if_neg (by omega)]
      by_cases c2:l<x/\x<=k
      ·rw [if_pos c2,if_pos (by omega),show lo+x - 1=lo+(x - 1) by omega]
      ·rw [if_neg c2,if_neg (by omega)]
    rw [xB,xB];by_cases j1:j=l
    ·rw [if_pos j1,if_neg (by omega),if_neg (by omega)]
     exact a2 i (by omega)
    ·rw [if_neg j1]
     by_cases j2:l<j/\j<=k
     ·rw [if_pos j2]
      by_cases i1:i=l
      ·rw [if_pos i1]
       exact W.gZ _ _ (a3 (j - 1) (by omega) (by omega))
      ·rw [if_neg i1]
       by_cases i2:l<i/\i<=k
       ·rw [if_pos i2];exact hr _ _ (by omega) (by omega)
       ·rw [if_neg i2];exact hr _ _ (by omega) (by omega)
     ·rw [if_neg j2,if_neg (by omega),if_neg (by omega)]
      exact hr i j gu (by omega)
 ·rintro c st ⟨q,rfl,rfl,hs,hr⟩
  rw [show max (max ok 1) n=n by omega] at hr;exact⟨q,rfl,rfl,hs,hr⟩
 ·rintro c st ⟨q,rfl,rfl,hs,hr⟩
  exact wpS_pure (fin q hs hr)
end
noncomputable def rq:Bool->Keyed->Array Keyed->Nat->Nat->Nat->StateT SortSt Sem (Option Nat):=sortPriv% PySem.Builtin.gallop
section
variable {prog:Pp} {w:Qn} {A:Pm} {E:OE->OH->Prop} {s:OH} {κ:SortKind} {f:Nat->Keyed} {lt:Nat->Nat->Bool} {N:Nat} {p:Array Nat} {pd:Array (Nat × Nat × Nat)} {g lo:Nat}
noncomputable def LV (left:Bool) (key:Keyed) (arr:Array Keyed) (i:Nat):StateT SortSt Sem (Option Bool):=do
 let x <- elem' arr i
 if left then lt' x key else return (<- lt' key x).map (!·)
noncomputable def bv (lt:Nat->Nat->Bool) (left:Bool) (k x:Nat):Bool:=if left then lt x k else !lt k x
theorem nE {left:Bool} {k i:Nat} {st:SortSt} {Q:Option Bool->SortSt->Prop} (hc:sX prog w A s κ f lt N) (hk:kindOf st=κ) (ha:Al N p) (h1:k<N) (h2:i<p.size) (h:Q (some (bv lt left k (p.getD i 0))) st):wpS (model prog w) A E s (LV left (f k) (p.map f) i) Q st:=by
 refine wpS_bind (sY h2 ?_);cases left with
 | true=>exact uT hc hk (ha i h2) h1 h
 | false=>exact wpS_bind (uT hc hk h1 (ha i h2) (wpS_pure h))
theorem zV {n:Nat} {B:Nat->Bool} {st:SortSt} {body:Nat->Option (Option Nat) × Nat × Nat->StateT SortSt Sem (ForInStep (Option (Option Nat) × Nat × Nat))} {Q:Option (Option Nat) × Nat × Nat->SortSt->Prop}
  (nF:∀i j,i<=j->j<n->B j=true->B i=true)
  (step:∀x lo hi R,hi<=n->(lo≥hi->R (.done (none,lo,hi)) st)->(lo<hi->B (lo+(hi - lo) / 2)=true->R (.yield (none,lo+(hi - lo) / 2+1,hi)) st)->(lo<hi->B (lo+(hi - lo) / 2)=false->R (.yield (none,lo,lo+(hi - lo) / 2)) st)->wpS (model prog w) A E s (body x (none,lo,hi)) R st)
  {lo hi:Nat} (h1:lo<=hi) (h2:hi<=n) (h3:∀i,i<lo->B i=true) (h4:∀i,hi<=i->i<n->B i=false)
  (fin:∀x,x<=n->(∀i,i<x->B i=true)->(∀i,x<=i->i<n->B i=false)->Q (none,x,x) st):wpS (model prog w) A E s (forIn [:n] (none,lo,hi) body) Q st:=by
 refine wpS_forRange (I:=fun i c cA=>cA=st/\∃lo hi,c=(none,lo,hi)/\lo<=hi/\hi<=n/\hi - lo+i<=n/\(∀i,i<lo->B i=true)/\∀i,hi<=i->i<n->B i=false) ?_ ?_ ⟨rfl,lo,hi,rfl,h1,h2,by omega,h3,h4⟩
 ·rintro i c cA _ hi' ⟨rfl,lo,hi,rfl,a1,a2,a3,a4,a5⟩
  refine step i lo hi _ a2 (fun z=>?_) (fun z e=>⟨rfl,_,_,rfl,by omega,a2,by omega,fun x hx=>?_,a5⟩) (fun z e=>⟨rfl,_,_,rfl,by omega,by omega,by omega,a4,fun x b1 b2=>?_⟩)
  ·obtain rfl:lo=hi:=by omega
   exact fin lo a2 a4 a5
  ·exact nF x (lo+(hi - lo) / 2) (by omega) (by omega) e
  ·cases q:B x with
   | false=>rfl
   | true=>rw [nF _ _ b1 b2 q] at e;cases e
 ·rintro c cA ⟨rfl,lo,hi,rfl,a1,a2,a3,a4,a5⟩
  obtain rfl:lo=hi:=by omega
  exact fin lo a2 a4 a5
theorem uU {left:Bool} {k base n hint:Nat} {st:SortSt} {Q:Option Nat->SortSt->Prop} (hc:sX prog w A s κ f lt N) (hk:kindOf st=κ) (ha:Al N p) (h1:k<N) (hz:base+n<=p.size) (hh:hint<n)
  (nF:∀i j,i<=j->j<n->bv lt left k (aG p base j)=true->bv lt left k (aG p base i)=true)
  (fin:∀x,x<=n->(∀i,i<x->bv lt left k (aG p base i)=true)->(∀i,x<=i->i<n->bv lt left k (aG p base i)=false)->Q (some x) st) :
  wpS (model prog w) A E s (rq left (f k) (p.map f) base n hint) Q st:=by
 refine wpS_bind (nE hc hk ha h1 (by omega) ?_);dsimp only;have no:∀i j,i<=j->j<n->bv lt left k (aG p base i)=false->bv lt left k (aG p base j)=false:=fun i j a b c=>by
  cases q:bv lt left k (aG p base j) with
  | false=>rfl
  | true=>rw [nF _ _ a b q] at c;cases c
 cases e0:bv lt left k (p.getD (base+hint) 0) with
 | true =>
  simp only [if_true];refine wpS_bind (wpS_mono (wpS_forRange (I:=fun i c cA=>cA=st/\∃la o,c=(none,la,o)/\i<o/\la<o/\la<n - hint/\bv lt left k (aG p base (hint+la))=true) (Q:=fun c cA=>cA=st/\∃la o,c=(none,la,o)/\la<o/\la<n - hint/\bv lt left k (aG p base (hint+la))=true/\(n - hint<=o\/bv lt left k (aG p base (hint+o))=false)) ?_ ?_ ⟨rfl,0,1,rfl,Vj,Vj,by omega,e0⟩) ?_)
  ·rintro i c cA _ hi ⟨rfl,la,o,rfl,a1,a2,a3,a4⟩
   dsimp only;split
   ·exact wpS_pure ⟨rfl,la,o,rfl,a2,a3,a4,.inl ‹_›⟩
   ·refine wpS_bind (nE hc hk ha h1 (by omega) ?_)
    dsimp only;cases e:bv lt left k (p.getD (base+(hint+o)) 0) with
    | true=>exact wpS_pure ⟨rfl,o,_,rfl,by omega,by omega,by omega,e⟩
    | false=>exact wpS_pure ⟨rfl,la,o,rfl,a2,a3,a4,.inr e⟩
  ·rintro c cA ⟨rfl,la,o,rfl,a1,a2,a3,a4⟩
   exact⟨rfl,la,o,rfl,a2,a3,a4,.inl (by omega)⟩
  ·rintro c cA ⟨rfl,la,o,rfl,a2,a3,a4,a5⟩
   dsimp only;refine wpS_bind (zV (B:=fun i=>bv lt left k (aG p base i)) nF (fun x lo hi R hn r1 r2 r3=>?_) (by omega) (by omega) (fun i hi=>nF i (hint+la) (by omega) (by omega) a4) (fun i b1 b2=>?_) fun x b1 b2 b3=>wpS_pure (fin x b1 b2 b3))
   ·dsimp only
    split
    ·exact wpS_pure (r1 ‹_›)
    ·refine wpS_bind (nE hc hk ha h1 (by omega) ?_)
     dsimp only;cases e:bv lt left k (p.getD (base+(lo+(hi - lo) / 2)) 0) with
     | true=>exact wpS_pure (r2 (by omega) e)
     | false=>exact wpS_pure (r3 (by omega) e)
   ·rcases a5 with a5|a5
    ·omega
    ·exact no (hint+o) i (by omega) b2 a5
 | false =>
  simp only [OQ,if_false];refine wpS_bind (wpS_mono (wpS_forRange (I:=fun i c cA=>cA=st/\∃la o,c=(none,la,o)/\i<o/\la<o/\la<=hint/\bv lt left k (aG p base (hint - la))=false) (Q:=fun c cA=>cA=st/\∃la o,c=(none,la,o)/\la<o/\la<=hint/\bv lt left k (aG p base (hint - la))=false/\(hint+1<=o\/bv lt left k (aG p base (hint - o))=true)) ?_ ?_ ⟨rfl,0,1,rfl,Vj,Vj,Pg _,e0⟩) ?_)
  ·rintro i c cA _ hi ⟨rfl,la,o,rfl,a1,a2,a3,a4⟩
   dsimp only;split
   ·exact wpS_pure ⟨rfl,la,o,rfl,a2,a3,a4,.inl ‹_›⟩
   ·refine wpS_bind (nE hc hk ha h1 (by omega) ?_)
    dsimp only;cases e:bv lt left k (p.getD (base+(hint - o)) 0) with
    | true=>exact wpS_pure ⟨rfl,la,o,rfl,a2,a3,a4,.inr e⟩
    | false=>exact wpS_pure ⟨rfl,o,_,rfl,by omega,by omega,by omega,e⟩
  ·rintro c cA ⟨rfl,la,o,rfl,a1,a2,a3,a4⟩
   exact⟨rfl,la,o,rfl,a2,a3,a4,.inl (by omega)⟩
  ·rintro c cA ⟨rfl,la,o,rfl,a2,a3,a4,a5⟩
   dsimp only;refine wpS_bind (zV (B:=fun i=>bv lt left k (aG p base i)) nF (fun x lo hi R hn r1 r2 r3=>?_) (by omega) (by omega) (fun i hi=>?_) (fun i b1 b2=>no (hint - la) i (by omega) b2 a4) fun x b1 b2 b3=>wpS_pure (fin x b1 b2 b3))
   ·dsimp only
    split
    ·exact wpS_pure (r1 ‹_›)
    ·refine wpS_bind (nE hc hk ha h1 (by omega) ?_)
     dsimp only;cases e:bv lt left k (p.getD (base+(lo+(hi - lo) / 2)) 0) with
     | true=>exact wpS_pure (r2 (by omega) e)
     | false=>exact wpS_pure (r3 (by omega) e)
   ·rcases a5 with a5|a5
    ·omega
    ·exact nF i (hint - o) (by omega) (by omega) a5
end
noncomputable def uV:Array Keyed->Array Keyed->StateT SortSt Sem (Array Keyed):=sortPriv% PySem.Builtin.mergeLo
noncomputable def uW:Array Keyed->Array Keyed->StateT SortSt Sem (Array Keyed):=sortPriv% PySem.Builtin.mergeHi
structure J (r:Nat->Nat->Prop) (T U V O:List Nat):Prop where
 pm:(O++(U++V)).Perm T
 so:O.Pairwise r
 ou:∀x∈O,∀y,y∈U\/y∈V->r x y
 su:U.Pairwise r
 sv:V.Pairwise r
section
variable {r:Nat->Nat->Prop} {T U V O C:List Nat} {u:Array Nat} {i k:Nat}
theorem J.swap (h:J r T U V O):J r T V U O:=⟨((UX).append_left O).trans h.pm,h.so,fun x hx y hy=>h.ou x hx y hy.symm,h.sv,h.su⟩
theorem J.chunk (h:J r T (C++U) V O) (hC:∀x∈C,∀y∈V,r x y):J r T U V (O++C):=by
 obtain⟨h1,h2,h3⟩:=QU.mp h.su;refine⟨by simpa using h.pm,QU.mpr ⟨h.so,h1,fun x hx y hy=>h.ou x hx y (.inl (Pu _ hy))⟩,fun x hx y hy=>?_,h2,h.sv⟩;rcases OU.mp hx with hx|hx
 ·exact h.ou x hx y (hy.imp (Pn _) id)
 ·rcases hy with hy|hy
  ·exact h3 x hx y hy
  ·exact hC x hx y hy
theorem J.all (h:J r T U [] O):(O++U).Pairwise r/\(O++U).Perm T:=by
 have z:=(show J r T (U++[]) [] O by rw [QD];exact h).chunk (fun x _ y hy=>by cases hy);exact⟨z.so,by simpa using z.pm⟩
theorem J.last {z:Nat} (h:J r T [z] V O) (hz:∀y∈V,r y z):(O++V++[z]).Pairwise r/\(O++V++[z]).Perm T:=by
 have a:=h.swap;have a:=(show J r T (V++[]) [z] O by rw [QD];exact a).chunk (fun x hx y hy=>by rw [OK.mp hy];exact hz x hx)
 exact a.swap.all
theorem J.tk (h:J r T (u.toList.drop i) V O) (hC:∀x∈(u.toList.drop i).take k,∀y∈V,r x y):J r T (u.toList.drop (i+k)) V (O++(u.toList.drop i).take k):=by
 have e:u.toList.drop i=(u.toList.drop i).take k++u.toList.drop (i+k):=by rw [<- Vd,Qy]
 exact(show J r T ((u.toList.drop i).take k++u.toList.drop (i+k)) V O by rw [<- e];exact h).chunk hC
theorem f7 {x:Nat} (h:x∈(u.toList.drop i).take k):∃j,j<k/\i+j<u.size/\x=aG u i j:=by
 obtain⟨j,hj,e⟩:=QI.mp h;simp only [Qd,PN,PY] at hj;have hs:i+j<u.size:=by omega
 refine⟨j,by omega,hs,?_⟩;rw [<- e];simp [aG,PJ,hs]
theorem pG {x:Nat} (h:x∈u.toList.drop i):∃j,i+j<u.size/\x=aG u i j:=by
 have:x∈(u.toList.drop i).take u.size:=by rw [Pk (by simp)];exact h
 obtain⟨j,_,h2,h3⟩:=f7 this;exact⟨j,h2,h3⟩
theorem jq (h:i<u.size):(u.toList.drop i).take 1=[u.getD i 0]:=by
 rw [PV (by simpa using h)];simp [PJ,h]
end
section
variable {r:Nat->Nat->Prop} {T:List Nat} {u v:Array Nat} {a b:Array Keyed} {ia ib k:Nat} {out:Array Keyed} {f:Nat->Keyed}
noncomputable def Iv (f:Nat->Keyed) (r:Nat->Nat->Prop) (T:List Nat) (u v:Array Nat) (out:Array Keyed) (ia ib:Nat):Prop:=∃o:Array Nat,out=o.map f/\J r T (u.toList.drop ia) (v.toList.drop ib) o.toList
noncomputable def Gd (f:Nat->Keyed) (r:Nat->Nat->Prop) (T:List Nat) (out:Array Keyed):Prop:=∃o:Array Nat,out=o.map f/\o.toList.Pairwise r/\o.toList.Perm T
theorem Iv.swap (h:Iv f r T u v out ia ib):Iv f r T v u out ib ia:=let ⟨o,e,h⟩:=h;⟨o,e,h.swap⟩
theorem Iv.ext (ea:u.map f=a) (h:Iv f r T u v out ia ib) (hC:∀j,j<k->ia+j<u.size->∀y∈v.toList.drop ib,r (aG u ia j) y):Iv f r T u v (out++a.extract ia (ia+k)) (ia+k) ib:=by
 subst ea;obtain⟨o,rfl,h⟩:=h;have z:=h.tk (k:=k) fun x hx y hy=>by
  obtain⟨j,h1,h2,rfl⟩:=f7 hx;exact hC j h1 h2 y hy
 refine⟨o++u.extract ia (ia+k),by simp,?_⟩;have e:(o++u.extract ia (ia+k)).toList=o.toList++(u.toList.drop ia).take k:=by simp [QL]
 rw [e];exact z
theorem Iv.uX (h:Iv f r T u v out ia ib) (hi:ia<u.size) (hC:∀y∈v.toList.drop ib,r (u.getD ia 0) y):Iv f r T u v (out.push (f (u.getD ia 0))) (ia+1) ib:=by
 obtain⟨o,rfl,h⟩:=h;have z:=h.tk (k:=1) fun x hx y hy=>by
  rw [jq hi] at hx;rw [OK.mp hx];exact hC y hy
 rw [jq hi] at z;exact⟨o.push (u.getD ia 0),by simp,by simpa using z⟩
theorem xd {α:Type} (u:Array α) (i:Nat):(u.extract i u.size).toList=u.toList.drop i:=by rw [RY,QL,Pk (by simp)]
theorem xm (u:Array Nat) (i j:Nat):(u.map f).extract i j=(u.extract i j).map f:=by simp
theorem xn (u:Array Nat):u.extract u.size u.size = #[]:=by apply Vt;rw [xd];simp
theorem Iv.dn (ea:u.map f=a) (eb:v.map f=b) (h:Iv f r T u v out ia ib) (e:ib=v.size):Gd f r T (out++a.extract ia a.size++b.extract ib b.size):=by
 subst ea eb;rw [Pj,Pj];obtain⟨o,rfl,h⟩:=h;subst e;rw [Q6 (l:=v.toList) (by simp)] at h;obtain⟨h1,h2⟩:=h.all;have e:(o++u.extract ia u.size).toList=o.toList++u.toList.drop ia:=by rw [Qu,xd]
 exact⟨o++u.extract ia u.size,by rw [xm,xm,xn,Array.map_append];simp,by rw [e];exact h1,by rw [e];exact h2⟩
theorem Iv.DN (ea:u.map f=a) (eb:v.map f=b) (h:Iv f r T u v out ia ib) (e:ia=u.size):Gd f r T (out++a.extract ia a.size++b.extract ib b.size):=by
 subst ea eb;rw [Pj,Pj];obtain⟨o,rfl,h⟩:=h;subst e;rw [Q6 (by simp)] at h;obtain⟨h1,h2⟩:=h.swap.all;have e:(o++v.extract ib v.size).toList=o.toList++v.toList.drop ib:=by rw [Qu,xd]
 exact⟨o++v.extract ib v.size,by rw [xm,xm,xn,Array.map_append];simp,by rw [e];exact h1,by rw [e];exact h2⟩
theorem Iv.la (ea:u.map f=a) (eb:v.map f=b) (h:Iv f r T u v out ia ib) (e:ia+1=u.size) (hz:∀y∈v.toList.drop ib,r y (u.getD (u.size - 1) 0)):Gd f r T (out++b.extract ib b.size++a.extract ia a.size):=by
 subst ea eb;rw [Pj,Pj];obtain⟨o,rfl,h⟩:=h;have hi:ia<u.size:=by omega
 have e1:u.toList.drop ia=[u.getD ia 0]:=by
  rw [<- jq hi,Pk (by simp;omega)]
 rw [e1] at h;rw [show u.size - 1=ia by omega] at hz;obtain⟨h1,h2⟩:=h.last hz;have e:(o++v.extract ib v.size++u.extract ia u.size).toList=o.toList++v.toList.drop ib++[u.getD ia 0]:=by rw [Qu,Qu,xd,xd,e1]
 exact⟨o++v.extract ib v.size++u.extract ia u.size,by simp,by rw [e];exact h1,by rw [e];exact h2⟩
end
section
variable {prog:Pp} {w:Qn} {A:Pm} {E:OE->OH->Prop} {s:OH} {κ:SortKind} {f:Nat->Keyed} {lt:Nat->Nat->Bool} {N:Nat} {p u v:Array Nat} {pd:Array (Nat × Nat × Nat)} {g:Nat}
theorem cq.sub {lo m base n:Nat} (h:cq lt u lo m) (h1:lo<=base) (h2:base+n<=lo+m):cq lt u base n:=fun i j gu hj=>by
 have:=h (base - lo+i) (base - lo+j) (by omega) (by omega);simpa only [aG,show lo+(base - lo+i)=base+i by omega,show lo+(base - lo+j)=base+j by omega] using this
theorem cq.le (W:WO lt) {lo m i j:Nat} (h:cq lt u lo m) (h1:i<=j) (h2:j<m):lt (aG u lo j) (aG u lo i)=false:=by
 by_cases e:i=j
 ·subst e;exact W.pF _
 ·exact h i j (by omega) h2
theorem pH (W:WO lt) {left:Bool} {k base n:Nat} (su:cq lt u base n):∀i j,i<=j->j<n->bv lt left k (aG u base j)=true->bv lt left k (aG u base i)=true:=fun i j h1 h2 h=>by
 have z:=su.le W h1 h2;cases left with
 | true=>exact W.dn h z
 | false =>
  have h:(!lt k (aG u base j))=true:=h;show(!lt k (aG u base i))=true
  rw [RR] at h ⊢;exact W.tr _ _ _ z h
theorem rz (W:WO lt) (su:cq lt u 0 u.size) {i y:Nat} (h:y∈u.toList.drop i):lt y (u.getD i 0)=false:=by
 obtain⟨j,hj,rfl⟩:=pG h;by_cases e:j=0
 ·subst e;exact W.pF _
 ·have:=su i (i+j) (by omega) hj
  simpa [aG] using this
abbrev jr (lt:Nat->Nat->Bool) (x y:Nat):Prop:=lt y x=false
theorem pI (su:cq lt u 0 u.size):u.toList.Pairwise (jr lt):=by
 rw [Ro];intro i j hi hj gu;have hi':i<u.size:=by simpa using hi
 have hj':j<u.size:=by simpa using hj
 have:=su i j gu hj';simpa [aG,PJ,hi',hj'] using this
theorem share1 {M:Model} {σ α ι:Type} {G:Prop} {C:ι->σ->Prop} {m:ι->StateT σ Sem α} {Q:α->σ->Prop} (h:(∀i st,C i st->wpS M A E s (m i) Q st)->G) (k:∀i st,C i st->wpS M A E s (m i) Q st):G:=h k
theorem l9 {M:Model} {σ α ι ι':Type} {G:Prop} {C:ι->ι'->σ->Prop} {m:ι->ι'->StateT σ Sem α} {Q:α->σ->Prop} (h:(∀i j st,C i j st->wpS M A E s (m i j) Q st)->G) (k:∀i j st,C i j st->wpS M A E s (m i j) Q st):G:=h k
theorem fk {M:Model} {σ α:Type} {c:Prop} [Decidable c] {m1 m2:StateT σ Sem α} {Q:α->σ->Prop} {st:σ} (h1:c->wpS M A E s m1 Q st) (h2:¬c->wpS M A E s m2 Q st):wpS M A E s (if c then m1 else m2) Q st:=by
 by_cases h:c
 ·rw [if_pos h];exact h1 h
 ·rw [if_neg h];exact h2 h
theorem w_eq {M:Model} {σ α:Type} {x y z:Nat} {m1 m2:StateT σ Sem α} {Q:α->σ->Prop} {st:σ} (e:y=z) (h1:x=z->wpS M A E s m1 Q st) (h2:x≠z->wpS M A E s m2 Q st):wpS M A E s (if (x == y)=true then m1 else m2) Q st:=by
 subst e;exact fk (fun h=>h1 (beq_iff_eq.mp h)) fun h=>h2 fun q=>h (beq_iff_eq.mpr q)
theorem fm {st:SortSt} {a:Array Keyed} {i:Nat} {Q:Keyed->SortSt->Prop} (ea:p.map f=a) (hi:i<p.size) (h:Q (f (p.getD i 0)) st):wpS (model prog w) A E s (elem' a i) Q st:=by subst ea;exact sY hi h
theorem yu {a:Array Keyed} {left:Bool} {k base n hint:Nat} {st:SortSt} {Q:Option Nat->SortSt->Prop} (ea:p.map f=a) (W:WO lt) (hc:sX prog w A s κ f lt N) (hk:kindOf st=κ) (ha:Al N p) (h1:k<N) (hz:base+n<=p.size) (hh:hint<n) (su:cq lt p 0 p.size)
  (fin:∀x,x<=n->(∀i,i<x->bv lt left k (aG p base i)=true)->(∀i,x<=i->i<n->bv lt left k (aG p base i)=false)->Q (some x) st) :
  wpS (model prog w) A E s (rq left (f k) a base n hint) Q st:=by subst ea;exact uU hc hk ha h1 hz hh (pH W (su.sub (Pg _) (by omega))) fin
theorem HY {Q:Array Keyed->SortSt->Prop} (W:WO lt) (hc:sX prog w A s κ f lt N) (hu:Al N u) (hv:Al N v) (u1:1<=u.size) (v1:1<=v.size) (su:cq lt u 0 u.size) (sv:cq lt v 0 v.size)
  (h0:∀y∈u.toList,lt y (v.getD 0 0)=false) (hl:∀y∈v.toList,lt (u.getD (u.size - 1) 0) y=false)
  (fin:∀o g',Gd f (jr lt) (u.toList++v.toList) o->Q o (St κ f p pd g')) :
  wpS (model prog w) A E s (uV (u.map f) (v.map f)) Q (St κ f p pd g):=by
 generalize ea:u.map f=a;generalize eb:v.map f=b;have sa:a.size=u.size:=by rw [<- ea,Pj]
 have sb:b.size=v.size:=by rw [<- eb,Pj]
 refine wpS_bind (wpS_lift (wpAny_rule ⟨rfl,?_⟩));refine wpS_bind (fm eb v1 ?_);dsimp only;generalize hT:u.toList++v.toList=T at fin;have h1:Iv f (jr lt) T u v #[f (v.getD 0 0)] 0 1:=by
  have z:Iv f (jr lt) T v u #[] 0 0:=⟨#[],by simp,by rw [<- hT];simpa using UX,by simp,by simp,by simpa using pI sv,by simpa using pI su⟩;exact(z.uX v1 fun y hy=>h0 y (by simpa using hy)).swap
 have hl':∀{ib},∀y∈v.toList.drop ib,jr lt y (u.getD (u.size - 1) 0):=fun y hy=>hl y (U8 hy)
 refine w_eq sb (fun e=>wpS_pure (fin _ _ (h1.dn ea eb e))) fun e1=>?_
 refine w_eq sa (fun e=>wpS_pure (fin _ _ (h1.la ea eb e hl'))) fun e2=>?_
 refine wpS_bind (wpS_get ?_);refine wpS_bind (wpS_mono (wpS_forRange (I:=fun i c st=>∃out ia ib mg g',c=(none,out,ia,ib,mg)/\st=St κ f p pd g'/\Iv f (jr lt) T u v out ia ib/\ia+1<u.size/\ib<v.size/\i+1<=ia+ib)
  (Q:=fun c st=>∃r x g',c=(some r,x)/\st=St κ f p pd g'/\Gd f (jr lt) T r) ?_ ?_ ⟨_,0,1,_,g,rfl,rfl,h1,by omega,by omega,by omega⟩) ?_)
 ·rintro i c st _ hi ⟨out,ia,ib,mg,g1,rfl,rfl,hI,b1,b2,b3⟩
  dsimp only;refine wpS_bind (wpS_mono (wpS_forRange (I:=fun j c st=>∃out ia ib ac bc,c=(none,out,ia,ib,ac,bc)/\st=St κ f p pd g1/\Iv f (jr lt) T u v out ia ib/\ia+1<u.size/\ib<v.size/\i+1+j<=ia+ib)
   (Q:=fun c st=>st=St κ f p pd g1/\((∃r x,c=(some r,x)/\Gd f (jr lt) T r)\/∃out ia ib ac bc,c=(none,out,ia,ib,ac,bc)/\Iv f (jr lt) T u v out ia ib/\ia+1<u.size/\ib<v.size/\i+2<=ia+ib)) ?_ ?_ ⟨out,ia,ib,0,0,rfl,rfl,hI,b1,b2,b3⟩) ?_)
  ·rintro j c st _ hj ⟨out,ia,ib,ac,bc,rfl,rfl,hI,b1,b2,b3⟩
   dsimp only;have md:ia<u.size:=by omega
   refine wpS_bind (fm eb b2 (wpS_bind (fm ea md (wpS_bind (uT hc rfl (hv _ b2) (hu _ md) ?_)))));dsimp only;cases e:lt (v.getD ib 0) (u.getD ia 0) with
   | true =>
    have hI:=(hI.swap.uX b2 fun y hy=>W.tr _ _ _ (W.gZ _ _ e) (rz W su hy)).swap;refine wpS_bind (fm eb b2 ?_);exact w_eq sb (fun z=>wpS_pure ⟨rfl,.inl ⟨_,_,rfl,hI.dn ea eb z⟩⟩) fun z=>fk (fun _=>wpS_pure ⟨rfl,.inr ⟨_,_,_,_,_,rfl,hI,b1,by omega,by omega⟩⟩) fun _=>wpS_pure ⟨_,_,_,_,_,rfl,rfl,hI,b1,by omega,by omega⟩
   | false =>
    have hI:=hI.uX md fun y hy=>W.tr _ _ _ e (rz W sv hy)
    refine wpS_bind (fm ea md ?_);exact w_eq sa (fun z=>wpS_pure ⟨rfl,.inl ⟨_,_,rfl,hI.la ea eb z hl'⟩⟩) fun z=>fk (fun _=>wpS_pure ⟨rfl,.inr ⟨_,_,_,_,_,rfl,hI,by omega,b2,by omega⟩⟩) fun _=>wpS_pure ⟨_,_,_,_,_,rfl,rfl,hI,by omega,b2,by omega⟩
  ·rintro c st ⟨out,ia,ib,ac,bc,rfl,rfl,hI,b1,b2,b3⟩
   exact⟨rfl,.inr ⟨_,_,_,_,_,rfl,hI,b1,b2,by omega⟩⟩
  ·rintro c st ⟨rfl,⟨r,x,rfl,hr⟩|⟨out,ia,ib,ac,bc,rfl,hI,b1,b2,b3⟩⟩
   ·exact wpS_pure ⟨r,_,g1,rfl,rfl,hr⟩
   dsimp only;refine wpS_bind (wpS_lift (wpAny_rule ⟨rfl,?_⟩));refine wpS_bind (wpS_mono (wpS_forRange (I:=fun j c st=>∃out ia ib mg ac bc g',c=(none,out,ia,ib,mg,ac,bc)/\st=St κ f p pd g'/\Iv f (jr lt) T u v out ia ib/\ia+1<u.size/\ib<v.size/\i+2<=ia+ib)
    (Q:=fun c st=>∃g',st=St κ f p pd g'/\((∃r x,c=(some r,x)/\Gd f (jr lt) T r)\/∃out ia ib mg ac bc,c=(none,out,ia,ib,mg,ac,bc)/\Iv f (jr lt) T u v out ia ib/\ia+1<u.size/\ib<v.size/\i+2<=ia+ib)) ?_ ?_ ⟨out,ia,ib,_,ac,bc,g1,rfl,rfl,hI,b1,b2,b3⟩) ?_)
   ·clear hI b1 b2 b3
    rintro j c st _ hj ⟨out,ia,ib,mg,ac,bc,g',rfl,rfl,hI,b1,b2,b3⟩;dsimp only;apply share1 (M:=model prog w) (A:=A) (E:=E) (s:=s) (C:=fun(_:Nat) st=>st=St κ f p pd g')
    ·intro key
     refine fk (fun _=>?_) (fun _=>?_)
     rotate_left
     ·generalize mg=x;exact key x _ rfl
     ·exact key _ _ rfl
    ·rintro mg _ rfl
     refine wpS_bind (wpS_modify ?_);refine wpS_bind (fm eb b2 ?_);have md:ia<u.size:=by omega
     refine wpS_bind (yu ea W hc rfl hu (hv _ b2) (by omega) (by omega) su fun k sH m4 zW=>?_);dsimp only;have nG:=hI.ext (k:=k) ea fun j hj _ y hy=>W.tr _ _ _ (by simpa [bv] using m4 j hj) (rz W sv hy)
     have low:∀y∈u.toList.drop (ia+k),lt y (v.getD ib 0)=false:=fun y hy=>by
      obtain⟨j,hj,rfl⟩:=pG hy;have:=zW (k+j) (by omega) (by omega)
      simp only [bv,OQ,if_false,Bool.not_eq_false'] at this;have:=W.gZ _ _ this
      simpa [aG,QW] using this
     apply l9 (M:=model prog w) (A:=A) (E:=E) (s:=s) (C:=fun(out:Array Keyed) (ia:Nat) st=>(∃g',st=St κ f p pd g')/\Iv f (jr lt) T u v out ia ib/\ia+1<u.size/\i+2<=ia+ib/\∀y∈u.toList.drop ia,lt y (v.getD ib 0)=false)
     ·intro key
      refine fk (fun z=>?_) (fun z=>?_)
      rotate_left
      ·have k0:ia+k=ia:=by omega
       rw [k0] at low;generalize ho:out=out';generalize hi':ia=LW;exact key out' LW _ ⟨⟨_,rfl⟩,by rw [<- ho,<- hi'];exact hI,by omega,by omega,by rw [<- hi'];exact low⟩
      ·refine w_eq sa (fun z=>wpS_pure ⟨_,rfl,.inl ⟨_,_,rfl,nG.la ea eb z hl'⟩⟩) fun z=>?_
       refine w_eq sa (fun z=>wpS_pure ⟨_,rfl,.inl ⟨_,_,rfl,nG.DN ea eb z⟩⟩) fun z=>?_
       exact key _ _ _ ⟨⟨_,rfl⟩,nG,by omega,by omega,low⟩
     ·clear hI nG low b1 b3 md sH m4 zW
      rintro out ia _ ⟨⟨g2,rfl⟩,hI,b1,b3,low⟩;refine wpS_bind (fm eb b2 ?_);have hI:=(hI.swap.uX b2 low).swap
      refine w_eq sb (fun z=>wpS_pure ⟨_,rfl,.inl ⟨_,_,rfl,hI.dn ea eb z⟩⟩) fun z=>?_
      have md:ia<u.size:=by omega
      refine wpS_bind (fm ea md ?_);refine wpS_bind (yu eb W hc rfl hv (hu _ md) (by omega) (by omega) sv fun k2 sH m4 zW=>?_);dsimp only;have nG:=(hI.swap.ext (k:=k2) eb fun j hj _ y hy=>W.tr _ _ _ (W.gZ _ _ (by simpa [bv] using m4 j hj)) (rz W su hy)).swap
      have low:∀y∈v.toList.drop (ib+1+k2),lt y (u.getD ia 0)=false:=fun y hy=>by
       obtain⟨j,hj,rfl⟩:=pG hy;have:=zW (k2+j) (by omega) (by omega)
       simp only [bv,if_true] at this;simpa [aG,QW] using this
      apply l9 (M:=model prog w) (A:=A) (E:=E) (s:=s) (C:=fun(out:Array Keyed) (ib:Nat) st=>(∃g',st=St κ f p pd g')/\Iv f (jr lt) T u v out ia ib/\ib<v.size/\i+2<=ia+ib/\∀y∈v.toList.drop ib,lt y (u.getD ia 0)=false)
      ·intro key
       refine fk (fun z=>?_) (fun z=>?_)
       rotate_left
       ·have k0:ib+1+k2=ib+1:=by omega
        rw [k0] at low;generalize ho:out.push (f (v.getD ib 0))=out';generalize hi':ib+1=LX;exact key out' LX _ ⟨⟨_,rfl⟩,by rw [<- ho,<- hi'];exact hI,by omega,by omega,by rw [<- hi'];exact low⟩
       ·refine w_eq sb (fun z=>wpS_pure ⟨_,rfl,.inl ⟨_,_,rfl,nG.dn ea eb z⟩⟩) fun z=>?_
        exact key _ _ _ ⟨⟨_,rfl⟩,nG,by omega,by omega,low⟩
      ·clear hI nG low
       rintro out ib _ ⟨⟨g2,rfl⟩,hI,c2,c3,low⟩;refine wpS_bind (fm ea md ?_);have hI:=hI.uX md low
       refine w_eq sa (fun z=>wpS_pure ⟨_,rfl,.inl ⟨_,_,rfl,hI.la ea eb z hl'⟩⟩) fun z=>?_
       exact fk (fun _=>wpS_pure ⟨_,rfl,.inr ⟨_,_,_,_,_,_,rfl,hI,by omega,c2,by omega⟩⟩) fun _=>wpS_pure ⟨_,_,_,_,_,_,_,rfl,rfl,hI,by omega,c2,by omega⟩
   ·rintro c st ⟨out,ia,ib,mg,ac,bc,g',rfl,rfl,hI,b1,b2,b3⟩
    exact⟨g',rfl,.inr ⟨_,_,_,_,_,_,rfl,hI,b1,b2,b3⟩⟩
   ·rintro c st ⟨g',rfl,⟨r,x,rfl,hr⟩|⟨out,ia,ib,mg,ac,bc,rfl,hI,b1,b2,b3⟩⟩
    ·exact wpS_pure ⟨r,_,g',rfl,rfl,hr⟩
    ·exact wpS_bind (wpS_modify (wpS_pure ⟨_,_,_,_,_,rfl,rfl,hI,b1,b2,b3⟩))
 ·rintro c st ⟨out,ia,ib,mg,g',rfl,rfl,hI,b1,b2,b3⟩
  omega
 ·rintro c st ⟨r,x,g',rfl,rfl,hr⟩
  exact wpS_pure (fin r g' hr)
end
section
variable {r:Nat->Nat->Prop} {T:List Nat} {u v:Array Nat} {a b:Array Keyed} {ia ib k:Nat} {out:Array Keyed} {f:Nat->Keyed}
noncomputable def Ih (f:Nat->Keyed) (r:Nat->Nat->Prop) (T:List Nat) (u v:Array Nat) (out:Array Keyed) (ia ib:Nat):Prop:=∃o:Array Nat,out=o.map f/\J r T (u.toList.take ia).reverse (v.toList.take ib).reverse o.toList
theorem Ih.swap (h:Ih f r T u v out ia ib):Ih f r T v u out ib ia:=let ⟨o,e,h⟩:=h;⟨o,e,h.swap⟩
theorem Ih.ext (ea:u.map f=a) (h:Ih f r T u v out ia ib) (hk:k<=ia) (hi:ia<=u.size) (hC:∀j,k<=j->j<ia->∀y∈(v.toList.take ib).reverse,r (aG u 0 j) y):Ih f r T u v (out++(a.extract k ia).reverse) k ib:=by
 subst ea;obtain⟨o,rfl,h⟩:=h;have e1:(u.extract k ia).toList=(u.toList.drop k).take (ia - k):=by simp [QL]
 have e2:(u.toList.take ia).reverse=(u.extract k ia).toList.reverse++(u.toList.take k).reverse:=by
  rw [<- RD,e1];congr 1;rw [show ia=k+(ia - k) by omega,Up,show k+(ia - k) - k=ia - k by omega]
 rw [e2] at h;have z:=h.chunk fun x hx y hy=>by
  rw [RG,e1] at hx;obtain⟨j,h1,h2,rfl⟩:=f7 hx;have:=hC (k+j) (by omega) (by omega) y hy
  simpa [aG] using this
 exact⟨o++(u.extract k ia).reverse,by simp [Array.map_reverse],by simpa using z⟩
theorem Ih.uX (h:Ih f r T u v out ia ib) (h1:1<=ia) (hi:ia<=u.size) (hC:∀y∈(v.toList.take ib).reverse,r (u.getD (ia - 1) 0) y):Ih f r T u v (out.push (f (u.getD (ia - 1) 0))) (ia - 1) ib:=by
 obtain⟨o,rfl,h⟩:=h;have e2:(u.toList.take ia).reverse=[u.getD (ia - 1) 0]++(u.toList.take (ia - 1)).reverse:=by
  have e:=jq (u:=u) (i:=ia - 1) (by omega);have:u.toList.take ia=u.toList.take (ia - 1)++[u.getD (ia - 1) 0]:=by
   rw [<- e,<- Up,show ia - 1+1=ia by omega]
  rw [this,RD];rfl
 rw [e2] at h;have z:=h.chunk fun x hx y hy=>by
  rw [OK.mp hx];exact hC y hy
 exact⟨o.push (u.getD (ia - 1) 0),by simp,by simpa using z⟩
theorem xt {α:Type} (u:Array α) (i:Nat):(u.extract 0 i).toList=u.toList.take i:=by rw [RY,QL];simp
theorem zX {l:Array Nat} {O:List Nat} {s:Nat->Nat->Prop} (e:l.toList.reverse=O) (h1:O.Pairwise r) (h2:O.Perm T) (hs:∀x y,r x y->s y x) (eo:out=l.map f):Gd f s T out:=by
 subst e;refine⟨l,eo,?_,(T9 _).symm.trans h2⟩;rw [UY] at h1;exact h1.imp fun h=>hs _ _ h
theorem Ih.dn {s:Nat->Nat->Prop} (hs:∀x y,r x y->s y x) (ea:u.map f=a) (eb:v.map f=b) (h:Ih f r T u v out ia ib) (e:ib=0):Gd f s T (a.extract 0 ia++b.extract 0 ib++out.reverse):=by
 subst ea eb e;obtain⟨o,rfl,h⟩:=h;rw [List.take_zero,List.reverse_nil] at h;obtain⟨h1,h2⟩:=h.all;exact zX (l:=u.extract 0 ia++o.reverse) (by rw [Qu,xt,RD,U9,Va]) h1 h2 hs (by simp)
theorem Ih.DN {s:Nat->Nat->Prop} (hs:∀x y,r x y->s y x) (ea:u.map f=a) (eb:v.map f=b) (h:Ih f r T u v out ia ib) (e:ia=0):Gd f s T (a.extract 0 ia++b.extract 0 ib++out.reverse):=by
 have z:=Ih.dn hs eb ea h.swap e;subst e;simpa using z
theorem Ih.fb {s:Nat->Nat->Prop} (hs:∀x y,r x y->s y x) (ea:u.map f=a) (eb:v.map f=b) (h:Ih f r T u v out ia ib) (v1:1<=v.size) (e:ib=1) (hz:∀y∈(u.toList.take ia).reverse,r y (v.getD 0 0)):Gd f s T (b.extract 0 ib++a.extract 0 ia++out.reverse):=by
 subst ea eb e;obtain⟨o,rfl,h⟩:=h;have e1:(v.toList.take 1).reverse=[v.getD 0 0]:=by
  have:=jq (u:=v) (i:=0) (by omega);rw [TU] at this;rw [this];rfl
 rw [e1] at h;obtain⟨h1,h2⟩:=h.swap.last hz;refine zX (l:=v.extract 0 1++u.extract 0 ia++o.reverse) ?_ h1 h2 hs (by simp);rw [Qu,Qu,xt,xt,RD,RD,U9,Va,e1,PR]
end
section
variable {prog:Pp} {w:Qn} {A:Pm} {E:OE->OH->Prop} {s:OH} {κ:SortKind} {f:Nat->Keyed} {lt:Nat->Nat->Bool} {N:Nat} {p u v:Array Nat} {pd:Array (Nat × Nat × Nat)} {g:Nat}
theorem rA (W:WO lt) (su:cq lt u 0 u.size) {m y:Nat} (h:y∈(u.toList.take m).reverse) (hm:m<=u.size):lt (u.getD (m - 1) 0) y=false:=by
 rw [RG] at h;obtain⟨j,h1,h2,rfl⟩:=f7 (i:=0) h;by_cases e:j=m - 1
 ·subst e;simpa [aG] using W.pF _
 ·have:=su j (m - 1) (by omega) (by omega)
  simpa [aG] using this
abbrev tW (lt:Nat->Nat->Bool) (x y:Nat):Prop:=lt x y=false
theorem HZ {Q:Array Keyed->SortSt->Prop} (W:WO lt) (hc:sX prog w A s κ f lt N) (hu:Al N u) (hv:Al N v) (u1:1<=u.size) (v1:1<=v.size) (su:cq lt u 0 u.size) (sv:cq lt v 0 v.size)
  (h0:∀y∈u.toList,lt y (v.getD 0 0)=false) (hl:∀y∈v.toList,lt (u.getD (u.size - 1) 0) y=false)
  (fin:∀o g',Gd f (jr lt) (u.toList++v.toList) o->Q o (St κ f p pd g')) :
  wpS (model prog w) A E s (uW (u.map f) (v.map f)) Q (St κ f p pd g):=by
 generalize ea:u.map f=a;generalize eb:v.map f=b;have sa:a.size=u.size:=by rw [<- ea,Pj]
 have sb:b.size=v.size:=by rw [<- eb,Pj]
 have hs:∀x y,tW lt x y->jr lt y x:=fun _ _ h=>h
 refine wpS_bind (wpS_lift (wpAny_rule ⟨rfl,?_⟩));refine wpS_bind (fm ea (by omega) ?_);dsimp only;generalize hT:u.toList++v.toList=T at fin;rw [sa];have h1:Ih f (tW lt) T u v #[f (u.getD (u.size - 1) 0)] (u.size - 1) v.size:=by
  have pw:∀{u:Array Nat},cq lt u 0 u.size->(u.toList.take u.size).reverse.Pairwise (tW lt):=fun {u} su=>by
   rw [Pk (by simp),UY];exact pI su
  have z:Ih f (tW lt) T u v #[] u.size v.size:=⟨#[],by simp,by rw [<- hT,Pk (by simp),Pk (by simp)];exact(T9 _).append (T9 _),by simp,by simp,pw su,pw sv⟩;exact z.uX u1 (OR _) fun y hy=>hl y (QH (RG.mp hy))
 have hl':∀{ia},∀y∈(u.toList.take ia).reverse,tW lt y (v.getD 0 0):=fun y hy=>h0 y (QH (RG.mp hy))
 refine w_eq rfl (fun e=>wpS_pure (fin _ _ (sb ▸ h1.DN hs ea eb e))) fun e1=>?_
 refine w_eq rfl (fun e=>wpS_pure (fin _ _ (sb ▸ h1.fb hs ea eb v1 (sb ▸ e) hl'))) fun e2=>?_
 refine wpS_bind (wpS_get ?_);refine wpS_bind (wpS_mono (wpS_forRange (I:=fun i c st=>∃na nb out mg g',c=(none,na,nb,out,mg)/\st=St κ f p pd g'/\Ih f (tW lt) T u v out na nb/\1<=na/\na<=u.size/\2<=nb/\nb<=v.size/\i+1+na+nb<=u.size+v.size)
  (Q:=fun c st=>∃r x g',c=(some r,x)/\st=St κ f p pd g'/\Gd f (jr lt) T r) ?_ ?_ ⟨_,_,_,_,g,rfl,rfl,sb ▸ h1,by omega,by omega,by omega,by omega,by omega⟩) ?_)
 ·rintro i c st _ hi ⟨na,nb,out,mg,g1,rfl,rfl,hI,b1,jZ,b2,mj,b3⟩
  dsimp only;refine wpS_bind (wpS_mono (wpS_forRange (I:=fun j c st=>∃na nb out ac bc,c=(none,na,nb,out,ac,bc)/\st=St κ f p pd g1/\Ih f (tW lt) T u v out na nb/\1<=na/\na<=u.size/\2<=nb/\nb<=v.size/\i+1+j+na+nb<=u.size+v.size)
   (Q:=fun c st=>st=St κ f p pd g1/\((∃r x,c=(some r,x)/\Gd f (jr lt) T r)\/∃na nb out ac bc,c=(none,na,nb,out,ac,bc)/\Ih f (tW lt) T u v out na nb/\1<=na/\na<=u.size/\2<=nb/\nb<=v.size/\i+2+na+nb<=u.size+v.size)) ?_ ?_ ⟨na,nb,out,0,0,rfl,rfl,hI,b1,jZ,b2,mj,b3⟩) ?_)
  ·rintro j c st _ hj ⟨na,nb,out,ac,bc,rfl,rfl,hI,b1,jZ,b2,mj,b3⟩
   dsimp only;have md:na - 1<u.size:=by omega
   have BM:nb - 1<v.size:=by omega
   refine wpS_bind (fm eb BM (wpS_bind (fm ea md (wpS_bind (uT hc rfl (hv _ BM) (hu _ md) ?_)))));dsimp only;cases e:lt (v.getD (nb - 1) 0) (u.getD (na - 1) 0) with
   | true =>
    have hI:=hI.uX b1 jZ fun y hy=>W.tr _ _ _ (rA W sv hy mj) (W.gZ _ _ e)
    refine wpS_bind (fm ea md ?_);exact w_eq rfl (fun z=>wpS_pure ⟨rfl,.inl ⟨_,_,rfl,hI.DN hs ea eb z⟩⟩) fun z=>fk (fun _=>wpS_pure ⟨rfl,.inr ⟨_,_,_,_,_,rfl,hI,by omega,by omega,b2,mj,by omega⟩⟩) fun _=>wpS_pure ⟨_,_,_,_,_,rfl,rfl,hI,by omega,by omega,b2,mj,by omega⟩
   | false =>
    have hI:=(hI.swap.uX (by omega) mj fun y hy=>W.tr _ _ _ (rA W su hy jZ) e).swap;refine wpS_bind (fm eb BM ?_);exact w_eq rfl (fun z=>wpS_pure ⟨rfl,.inl ⟨_,_,rfl,hI.fb hs ea eb v1 z hl'⟩⟩) fun z=>fk (fun _=>wpS_pure ⟨rfl,.inr ⟨_,_,_,_,_,rfl,hI,b1,jZ,by omega,by omega,by omega⟩⟩) fun _=>wpS_pure ⟨_,_,_,_,_,rfl,rfl,hI,b1,jZ,by omega,by omega,by omega⟩
  ·rintro c st ⟨na,nb,out,ac,bc,rfl,rfl,hI,b1,jZ,b2,mj,b3⟩
   exact⟨rfl,.inr ⟨_,_,_,_,_,rfl,hI,b1,jZ,b2,mj,by omega⟩⟩
  ·rintro c st ⟨rfl,⟨r,x,rfl,hr⟩|⟨na,nb,out,ac,bc,rfl,hI,b1,jZ,b2,mj,b3⟩⟩
   ·exact wpS_pure ⟨r,_,g1,rfl,rfl,hr⟩
   dsimp only;refine wpS_bind (wpS_lift (wpAny_rule ⟨rfl,?_⟩));refine wpS_bind (wpS_mono (wpS_forRange (I:=fun j c st=>∃na nb out mg ac bc g',c=(none,na,nb,out,mg,ac,bc)/\st=St κ f p pd g'/\Ih f (tW lt) T u v out na nb/\1<=na/\na<=u.size/\2<=nb/\nb<=v.size/\i+2+na+nb<=u.size+v.size)
    (Q:=fun c st=>∃g',st=St κ f p pd g'/\((∃r x,c=(some r,x)/\Gd f (jr lt) T r)\/∃na nb out mg ac bc,c=(none,na,nb,out,mg,ac,bc)/\Ih f (tW lt) T u v out na nb/\1<=na/\na<=u.size/\2<=nb/\nb<=v.size/\i+2+na+nb<=u.size+v.size)) ?_ ?_ ⟨na,nb,out,_,ac,bc,g1,rfl,rfl,hI,b1,jZ,b2,mj,b3⟩) ?_)
   ·clear hI b1 jZ b2 mj b3
    rintro j c st _ hj ⟨na,nb,out,mg,ac,bc,g',rfl,rfl,hI,b1,jZ,b2,mj,b3⟩;dsimp only;apply share1 (M:=model prog w) (A:=A) (E:=E) (s:=s) (C:=fun(_:Nat) st=>st=St κ f p pd g')
    ·intro key
     refine fk (fun _=>?_) (fun _=>?_)
     rotate_left
     ·generalize mg=x;exact key x _ rfl
     ·exact key _ _ rfl
    ·rintro mg _ rfl
     refine wpS_bind (wpS_modify ?_);have BM:nb - 1<v.size:=by omega
     refine wpS_bind (fm eb BM ?_);refine wpS_bind (yu ea W hc rfl hu (hv _ BM) (by omega) (by omega) su fun k sH m4 zW=>?_);dsimp only;have nG:=hI.ext (k:=k) ea sH jZ fun j Ex Ey y hy=>by
      have:=zW j Ex Ey;simp only [bv,OQ,if_false,Bool.not_eq_false'] at this;exact W.tr _ _ _ (rA W sv hy mj) (W.gZ _ _ this)
     have low:∀y∈(u.toList.take k).reverse,lt (v.getD (nb - 1) 0) y=false:=fun y hy=>by
      obtain⟨j,hj,_,rfl⟩:=f7 (i:=0) (RG.mp hy);simpa [bv] using m4 j hj
     generalize hx:na - k=x';apply l9 (M:=model prog w) (A:=A) (E:=E) (s:=s) (C:=fun(na:Nat) (out:Array Keyed) st=>(∃g',st=St κ f p pd g')/\Ih f (tW lt) T u v out na nb/\1<=na/\na<=u.size/\i+2+na+nb<=u.size+v.size/\∀y∈(u.toList.take na).reverse,lt (v.getD (nb - 1) 0) y=false)
     ·intro key
      refine fk (fun z=>?_) (fun z=>?_)
      rotate_left
      ·have k0:k=na:=by omega
       rw [k0] at low;generalize ho:out=out';generalize hi':na=LY;exact key LY out' _ ⟨⟨_,rfl⟩,by rw [<- ho,<- hi'];exact hI,by omega,by omega,by omega,by rw [<- hi'];exact low⟩
      ·refine w_eq rfl (fun z=>wpS_pure ⟨_,rfl,.inl ⟨_,_,rfl,nG.DN hs ea eb z⟩⟩) fun z=>?_
       exact key _ _ _ ⟨⟨_,rfl⟩,nG,by omega,by omega,by omega,low⟩
     ·clear hI nG low
      rintro na out _ ⟨⟨g2,rfl⟩,hI,b1,jZ,b3,low⟩;refine wpS_bind (fm eb BM ?_);have hI:=(hI.swap.uX (by omega) mj low).swap
      refine w_eq rfl (fun z=>wpS_pure ⟨_,rfl,.inl ⟨_,_,rfl,hI.fb hs ea eb v1 z hl'⟩⟩) fun z=>?_
      have md:na - 1<u.size:=by omega
      refine wpS_bind (fm ea md ?_);refine wpS_bind (yu eb W hc rfl hv (hu _ md) (by omega) (by omega) sv fun k2 sH m4 zW=>?_);dsimp only;have nG:=(hI.swap.ext (k:=k2) eb sH (by omega) fun j Ex Ey y hy=>W.tr _ _ _ (rA W su hy jZ) (by simpa [bv] using zW j Ex Ey)).swap
      have low:∀y∈(v.toList.take k2).reverse,lt (u.getD (na - 1) 0) y=false:=fun y hy=>by
       obtain⟨j,hj,_,rfl⟩:=f7 (i:=0) (RG.mp hy);exact W.gZ _ _ (by simpa [bv] using m4 j hj)
      generalize N5:nb - 1 - k2=x2;apply l9 (M:=model prog w) (A:=A) (E:=E) (s:=s) (C:=fun(nb:Nat) (out:Array Keyed) st=>(∃g',st=St κ f p pd g')/\Ih f (tW lt) T u v out na nb/\2<=nb/\nb<=v.size/\i+2+na+nb<=u.size+v.size/\∀y∈(v.toList.take nb).reverse,lt (u.getD (na - 1) 0) y=false)
      ·intro key
       refine fk (fun z=>?_) (fun z=>?_)
       rotate_left
       ·have k0:k2=nb - 1:=by omega
        rw [k0] at low;generalize ho:out.push (f (v.getD (nb - 1) 0))=out';generalize hi':nb - 1=LZ;exact key LZ out' _ ⟨⟨_,rfl⟩,by rw [<- ho,<- hi'];exact hI,by omega,by omega,by omega,by rw [<- hi'];exact low⟩
       ·refine w_eq rfl (fun z=>wpS_pure ⟨_,rfl,.inl ⟨_,_,rfl,nG.fb hs ea eb v1 z hl'⟩⟩) fun z=>?_
        refine w_eq rfl (fun z=>wpS_pure ⟨_,rfl,.inl ⟨_,_,rfl,nG.dn hs ea eb z⟩⟩) fun z=>?_
        exact key _ _ _ ⟨⟨_,rfl⟩,nG,by omega,by omega,by omega,low⟩
      ·clear hI nG low
       rintro nb out _ ⟨⟨g2,rfl⟩,hI,c2,Kw,c3,low⟩;refine wpS_bind (fm ea md ?_);have hI:=hI.uX b1 jZ low
       refine w_eq rfl (fun z=>wpS_pure ⟨_,rfl,.inl ⟨_,_,rfl,hI.DN hs ea eb z⟩⟩) fun z=>?_
       exact fk (fun _=>wpS_pure ⟨_,rfl,.inr ⟨_,_,_,_,_,_,rfl,hI,by omega,by omega,c2,Kw,by omega⟩⟩) fun _=>wpS_pure ⟨_,_,_,_,_,_,_,rfl,rfl,hI,by omega,by omega,c2,Kw,by omega⟩
   ·rintro c st ⟨na,nb,out,mg,ac,bc,g',rfl,rfl,hI,b1,jZ,b2,mj,b3⟩
    exact⟨g',rfl,.inr ⟨_,_,_,_,_,_,rfl,hI,b1,jZ,b2,mj,b3⟩⟩
   ·rintro c st ⟨g',rfl,⟨r,x,rfl,hr⟩|⟨na,nb,out,mg,ac,bc,rfl,hI,b1,jZ,b2,mj,b3⟩⟩
    ·exact wpS_pure ⟨r,_,g',rfl,rfl,hr⟩
    ·exact wpS_bind (wpS_modify (wpS_pure ⟨_,_,_,_,_,rfl,rfl,hI,b1,jZ,b2,mj,by omega⟩))
 ·rintro c st ⟨na,nb,out,mg,g',rfl,rfl,hI,b1,jZ,b2,mj,b3⟩
  omega
 ·rintro c st ⟨r,x,g',rfl,rfl,hr⟩
  exact wpS_pure (fin r g' hr)
end
theorem wr {α:Type} (s:Nat):∀(l:List α) (j:Nat) (a:Array α),s+j+l.length<=a.size->((l.zipIdx j).foldl (fun a x=>a.setIfInBounds (s+x.2) x.1) a).toList=a.toList.take (s+j)++l++a.toList.drop (s+j+l.length)
 | [],j,a,_=>by simp
 | x::l,j,a,h=>by
  rw [List.zipIdx_cons,Se,wr s l (j+1) _ (by simp at h ⊢;omega)];have hj:s+j<a.toList.length:=by simp at h ⊢;omega
  rw [Array.toList_setIfInBounds,show s+(j+1)=s+j+1 by omega,Ua,Vk (OR _),RI hj,Vl (by omega)];simp [show s+j+1+l.length=s+j+(l.length+1) by omega]
section
variable {prog:Pp} {w:Qn} {A:Pm} {E:OE->OH->Prop} {s:OH} {κ:SortKind} {f:Nat->Keyed} {lt:Nat->Nat->Bool} {N:Nat} {p p':Array Nat} {pd:Array (Nat × Nat × Nat)} {g lo m:Nat}
theorem sd (l:List Nat) (a b:Nat):(l.drop a).take b++l.drop (a+b)=l.drop a:=by rw [<- Vd,Qy]
abbrev seg (p:Array Nat) (lo m:Nat):List Nat:=(p.toList.drop lo).take m
theorem seg_at (h:lo+m<=p.size) {i:Nat} (hi:i<m):(seg p lo m)[i]?=some (aG p lo i):=by
 have h2:lo+i<p.size:=by omega
 simp [seg,aG,List.getElem?_take,hi,PJ,h2]
theorem cJ (h:lo+m<=p.size):(seg p lo m).length=m:=by simp [seg];omega
theorem fL (h:lo+m<=p.size):cq lt p lo m↔(seg p lo m).Pairwise (jr lt):=by
 rw [Ro];have e:∀i (hi:i<(seg p lo m).length),(seg p lo m)[i]=aG p lo i:=fun i hi=>by
  have:=seg_at h (i:=i) (by rwa [cJ h] at hi);rw [Ge9 hi] at this;exact Qq this
 constructor
 ·intro z i j hi hj gu
  rw [e,e];exact z i j gu (by rwa [cJ h] at hj)
 ·intro z i j gu hj
  have:=z i j (by rw [cJ h];omega) (by rw [cJ h];omega) gu;rwa [e,e] at this
theorem dk {x:Nat} (h:x∈seg p lo m):∃j,j<m/\lo+j<p.size/\x=aG p lo j:=f7 h
theorem rC (a b:Nat):seg p lo (a+b)=seg p lo a++seg p (lo+a) b:=by
 unfold seg;rw [Up,Vd]
theorem rD (W:WO lt) {a b:Nat} (hz:lo+(a+b)<=p.size) (h1:cq lt p lo a) (h2:cq lt p (lo+a) b) (h:∀i j,i<a->j<b->lt (aG p (lo+a) j) (aG p lo i)=false):cq lt p lo (a+b):=by
 rw [fL hz,rC,QU];refine⟨(fL (by omega)).mp h1,(fL (by omega)).mp h2,fun x hx y hy=>?_⟩;obtain⟨i,hi,_,rfl⟩:=dk hx;obtain⟨j,hj,_,rfl⟩:=dk hy;exact h i j hi hj
theorem nH (h:lo+m<=p.size) {i:Nat} (hi:i<m):(p.extract lo (lo+m)).getD i 0=aG p lo i:=by
 have h2:lo+i<p.size:=by omega
 have h3:i<(p.extract lo (lo+m)).size:=by simp;omega
 simp [aG,PJ,h2,h3];rw [dif_pos (by omega)]
theorem js (h:lo+m<=p.size):(p.extract lo (lo+m)).size=m:=by simp;omega
theorem rF:(p.extract lo (lo+m)).toList=seg p lo m:=by simp [seg,QL]
theorem uY (h:lo+m<=p.size) (r:cq lt p lo m):cq lt (p.extract lo (lo+m)) 0 (p.extract lo (lo+m)).size:=fun i j gu hj=>by
 rw [js h] at hj;show lt (PJ _ (0+j) 0) (PJ _ (0+i) 0)=false
 rw [UZ,UZ,nH h hj,nH h (Rw gu hj)];exact r i j gu hj
theorem rG (h:lo+m<=p.size) (ha:Al N p):Al N (p.extract lo (lo+m)):=fun i hi=>by
 rw [js h] at hi;rw [nH h hi];exact ha _ (by omega)
theorem yw {M:Model} {σ:Type} {Q:PUnit->σ->Prop} {x st:σ} (h:Q ⟨⟩ x):wpS M A E s (set x:StateT σ Sem PUnit) Q st:=by
 unfold wpS;rw [StateT.run_set];exact OC ⟨rfl,h⟩
theorem BN (W:WO lt) {sa na nb k n':Nat} {o:List Nat} (hz:sa+na+nb<=p.size) (hk:k<=na) (hn:n'<=nb) (ra:cq lt p sa na) (rb:cq lt p (sa+na) nb) (so:o.Pairwise (jr lt)) (po:o.Perm (seg p (sa+k) (na - k)++seg p (sa+na) n'))
  (g1:∀i,i<k->lt (aG p (sa+na) 0) (aG p sa i)=false) (g2:∀j,n'<=j->j<nb->lt (aG p (sa+na) j) (aG p sa (na - 1))=false) (n1:1<=na)
  (e:p'.toList=p.toList.take (sa+k)++o++p.toList.drop (sa+k+o.length)):Sm sa (sa+na+nb) p p'/\cq lt p' sa (na+nb):=by
 have ol:o.length=na - k+n':=by
  rw [po.length_eq,OL,cJ (by omega),cJ (by omega)]
 have lp:p.toList.length=p.size:=by simp
 have es:seg p (sa+k) (na - k)++seg p (sa+na) n'=seg p (sa+k) (na - k+n'):=by
  rw [rC,show sa+k+(na - k)=sa+na by omega]
 have ep:p.toList=p.toList.take (sa+k)++seg p (sa+k) (na - k+n')++p.toList.drop (sa+k+o.length):=by
  rw [ol,PR,sd,Qy]
 have pm:p'.toList.Perm p.toList:=by
  rw [e]
  conv=>rhs;rw [ep]
  rw [<- es];exact(po.append_left _).append_right _
 have sz:p'.size=p.size:=by simpa using pm.length_eq
 have e2:p'.toList=p.toList.take sa++((seg p sa k++o++seg p (sa+k+o.length) (nb - n'))++p.toList.drop (sa+na+nb)):=by
  have z1:p.toList.take (sa+k)=p.toList.take sa++seg p sa k:=Up;have z2:p.toList.drop (sa+k+o.length)=seg p (sa+k+o.length) (nb - n')++p.toList.drop (sa+na+nb):=by
   rw [show sa+na+nb=sa+k+o.length+(nb - n') by omega,sd]
  rw [e,z1,z2];simp only [PR]
 have l1:(seg p sa k++o++seg p (sa+k+o.length) (nb - n')).length=na+nb:=by
  rw [OL,OL,cJ (by omega),cJ (by omega)];omega
 have Hm:seg p' sa (na+nb)=seg p sa k++o++seg p (sa+k+o.length) (nb - n'):=by
  unfold seg;rw [e2,List.drop_left' (by simp;omega),List.take_left' l1]
 refine⟨⟨sz,pm,fun x hx=>?_⟩,?_⟩
 ·rw [Pc,Pc,<- QP,<- QP,e2]
  rcases hx with hx|hx
  ·rw [TV (by simp;omega),T4 hx]
  ·rw [<- PR,Tu (by rw [OL,l1];simp;omega),OL,l1,List.getElem?_drop]
   congr 2;simp;omega
 ·have mem:∀x∈o,(∃j,k<=j/\j<na/\x=aG p sa j)\/∃j,j<n'/\x=aG p (sa+na) j:=fun x hx=>by
   rcases OU.mp (po.mem_iff.mp hx) with h|h
   ·obtain⟨j,h1,_,rfl⟩:=dk h
    exact .inl ⟨k+j,by omega,by omega,by simp only [aG,QW]⟩
   ·obtain⟨j,h1,_,rfl⟩:=dk h
    exact .inr ⟨j,h1,rfl⟩
  have tl:∀x∈seg p (sa+k+o.length) (nb - n'),∃j,n'<=j/\j<nb/\x=aG p (sa+na) j:=fun x hx=>by
   obtain⟨j,h1,_,rfl⟩:=dk hx;exact⟨n'+j,by omega,by omega,by simp only [aG];congr 1;omega⟩
  rw [fL (by omega),Hm,QU,QU];refine⟨⟨(fL (by omega)).mp (ra.sub (OR _) (by omega)),so,fun x hx y hy=>?_⟩,(fL (by omega)).mp (rb.sub (by omega) (by omega)),fun x hx y hy=>?_⟩
  ·obtain⟨i,hi,_,rfl⟩:=dk hx
   rcases mem y hy with⟨j,h1,h2,rfl⟩|⟨j,h1,rfl⟩
   ·exact ra.le W (by omega) h2
   ·exact W.tr _ _ _ (g1 i hi) (rb.le W (Pg _) (by omega))
  ·obtain⟨j,h1,h2,rfl⟩:=tl y hy
   rcases OU.mp hx with hx|hx
   ·obtain⟨i,hi,_,rfl⟩:=dk hx
    exact W.tr _ _ _ (g1 i hi) (rb.le W (Pg _) h2)
   ·rcases mem x hx with⟨i,h3,h4,rfl⟩|⟨i,h3,rfl⟩
    ·exact W.tr _ _ _ (ra.le W (i:=i) (j:=na - 1) (by omega) (by omega)) (g2 j h1 h2)
    ·exact rb.le W (by omega) h2
theorem EJ {i sa na sb nb pw q:Nat} {Q:Bool->SortSt->Prop} (W:WO lt) (hc:sX prog w A s κ f lt N) (ha:Al N p) (h1:pd[i]?=some (sa,na,pw)) (h2:pd[i+1]?=some (sb,nb,q)) (hs:sb=sa+na) (n1:1<=na) (n2:1<=nb) (hz:sb+nb<=p.size) (ra:cq lt p sa na) (rb:cq lt p sb nb)
  (fin:∀p' g',Sm sa (sb+nb) p p'->cq lt p' sa (na+nb)->Q true (St κ f p' ((pd.setIfInBounds i (sa,na+nb,pw)).eraseIdxIfInBounds (i+1)) g')):wpS (model prog w) A E s (mergeAt' i) Q (St κ f p pd g):=by
 refine wpS_bind (wpS_get ?_);subst hs;dsimp only;rw [h1,h2];dsimp only;refine wpS_bind (yw ?_);refine wpS_bind (sY (by omega) ?_);refine wpS_bind (uU hc rfl ha (ha _ (by omega)) (by omega) (by omega) (pH W ra) fun k k1 k2 k3=>?_);dsimp only;have k2:∀i,i<k->lt (aG p (sa+na) 0) (aG p sa i)=false:=fun i hi=>by simpa [bv] using k2 i hi
 have k3:∀i,k<=i->i<na->lt (aG p (sa+na) 0) (aG p sa i)=true:=fun i hi h2=>by simpa [bv] using k3 i hi h2
 refine w_eq rfl (fun z=>wpS_pure (fin p _ (.refl p) (rD W (by omega) ra rb fun i j hi hj=>W.tr _ _ _ (k2 i (by omega)) (rb.le W (Pg _) hj)))) fun z=>?_
 refine wpS_bind (sY (by omega) ?_);rw [show sa+k+(na - k) - 1=sa+(na - 1) by omega];refine wpS_bind (uU hc rfl ha (ha _ (by omega)) (by omega) (by omega) (pH W rb) fun n' m1 m2 m3=>?_);dsimp only;have m2:∀i,i<n'->lt (aG p (sa+na) i) (aG p sa (na - 1))=true:=m2
 have m3:∀i,n'<=i->i<nb->lt (aG p (sa+na) i) (aG p sa (na - 1))=false:=m3;refine w_eq rfl (fun z=>wpS_pure (fin p _ (.refl p) (rD W (by omega) ra rb fun i j hi hj=>W.tr _ _ _ (ra.le W (i:=i) (j:=na - 1) (by omega) (by omega)) (m3 j (by omega) hj)))) fun z'=>?_
 have ex:(p.map f).extract (sa+k) (sa+na)=(p.extract (sa+k) (sa+k+(na - k))).map f:=by rw [show sa+k+(na - k)=sa+na by omega,xm]
 rw [ex,xm];have zu:sa+k+(na - k)<=p.size:=by omega
 have zv:sa+na+n'<=p.size:=by omega
 have ru:=uY zu (ra.sub (by omega) (by omega));have rv:=uY zv (rb.sub (OR _) (by omega))
 have u0:∀y∈(p.extract (sa+k) (sa+k+(na - k))).toList,lt y ((p.extract (sa+na) (sa+na+n')).getD 0 0)=false:=fun y hy=>by
  rw [rF] at hy;obtain⟨j,hj,_,rfl⟩:=dk hy;rw [nH zv (by omega)];have:=W.gZ _ _ (k3 (k+j) (by omega) (by omega))
  simpa only [aG,QW] using this
 have ul:∀y∈(p.extract (sa+na) (sa+na+n')).toList,lt ((p.extract (sa+k) (sa+k+(na - k))).getD ((p.extract (sa+k) (sa+k+(na - k))).size - 1) 0) y=false:=fun y hy=>by
  rw [rF] at hy;obtain⟨j,hj,_,rfl⟩:=dk hy;rw [js zu,nH zu (by omega)];have:=W.gZ _ _ (m2 j hj)
  rw [aG,aG,show sa+(na - 1)=sa+k+(na - k - 1) by omega] at this;exact this
 have end_:∀(o:Array Keyed),Gd f (jr lt) ((p.extract (sa+k) (sa+k+(na - k))).toList++(p.extract (sa+na) (sa+na+n')).toList) o->∃p',o.toList.zipIdx.foldl (fun a x=>a.setIfInBounds (sa+k+x.2) x.1) (p.map f)=p'.map f/\Sm sa (sa+na+nb) p p'/\cq lt p' sa (na+nb):=fun o ⟨q,eq,so,po⟩=>by
  subst eq;rw [rF,rF] at po;have ol:q.toList.length=na - k+n':=by
   rw [po.length_eq,OL,cJ (by omega),cJ (by omega)]
  refine⟨RN (p.toList.take (sa+k)++q.toList++p.toList.drop (sa+k+q.toList.length)),?_,BN W hz k1 m1 ra rb so po k2 m3 n1 rfl⟩;apply Vt;rw [wr (sa+k) _ 0 _ (by simp at ol ⊢;omega)];simp [Uq,Vq]
 refine fk (fun _=>?_) (fun _=>?_)
 ·refine wpS_bind (HY W hc (rG zu ha) (rG zv ha) (by rw [js zu];omega) (by rw [js zv];omega) ru rv u0 ul fun o g' hg=>?_)
  obtain⟨p',e,h3,h4⟩:=end_ o hg;refine wpS_bind (wpS_modify (wpS_bind (wpS_get (wpS_pure ?_))));dsimp only;rw [e];exact fin p' g' h3 h4
 ·refine wpS_bind (HZ W hc (rG zu ha) (rG zv ha) (by rw [js zu];omega) (by rw [js zv];omega) ru rv u0 ul fun o g' hg=>?_)
  obtain⟨p',e,h3,h4⟩:=end_ o hg;refine wpS_bind (wpS_modify (wpS_bind (wpS_get (wpS_pure ?_))));dsimp only;rw [e];exact fin p' g' h3 h4
end
section
variable {prog:Pp} {w:Qn} {A:Pm} {E:OE->OH->Prop} {s:OH} {κ:SortKind} {f:Nat->Keyed} {lt:Nat->Nat->Bool} {N:Nat} {p p':Array Nat} {pd:Array (Nat × Nat × Nat)} {g lo m:Nat}
noncomputable def Ch (lt:Nat->Nat->Bool) (p:Array Nat):List (Nat × Nat × Nat)->Nat->Nat->Prop
 | [],a,b=>a=b
 | x::r,a,b=>x.1=a/\1<=x.2.1/\cq lt p a x.2.1/\Ch lt p r (a+x.2.1) b
theorem Ch.len:∀{l:List (Nat × Nat × Nat)} {a b:Nat},Ch lt p l a b->a+l.length<=b
 | [],_,_,h=>TM h
 | x::r,a,b,h=>by have:=Ch.len h.2.2.2;have:=h.2.1;simp only [OP];omega
theorem Ch.app {r:List (Nat × Nat × Nat)}:∀{l:List (Nat × Nat × Nat)} {a b c:Nat},Ch lt p l a b->Ch lt p r b c->Ch lt p (l++r) a c
 | [],_,_,_,h,k=>by cases h;exact k
 | x::l,a,b,c,h,k=>⟨h.1,h.2.1,h.2.2.1,Ch.app h.2.2.2 k⟩
theorem Ch.cut {r:List (Nat × Nat × Nat)}:∀{l:List (Nat × Nat × Nat)} {a c:Nat},Ch lt p (l++r) a c->∃b,Ch lt p l a b/\Ch lt p r b c
 | [],a,_,h=>⟨a,rfl,h⟩
 | x::l,a,c,h=>let ⟨b,h1,h2⟩:=Ch.cut h.2.2.2;⟨b,⟨h.1,h.2.1,h.2.2.1,h1⟩,h2⟩
theorem cq.keep {n:Nat} (h:cq lt p lo n) (e:∀k,lo<=k->k<lo+n->p'.getD k 0=p.getD k 0):cq lt p' lo n:=fun i j gu hj=>by
 rw [aG,aG,e _ (by omega) (by omega),e _ (by omega) (by omega)];exact h i j gu hj
theorem Ch.keep:∀{l:List (Nat × Nat × Nat)} {a b:Nat},Ch lt p l a b->(∀k,a<=k->k<b->p'.getD k 0=p.getD k 0)->Ch lt p' l a b
 | [],_,_,h,_=>h
 | x::r,a,b,h,e=>by
  have:=h.2.2.2.len;exact⟨h.1,h.2.1,h.2.2.1.keep fun k h1 h2=>e k h1 (by omega),h.2.2.2.keep fun k h1 h2=>e k (by omega) h2⟩
theorem Ch.mod {F:Nat × Nat × Nat->Nat × Nat × Nat} (hF:∀x,(F x).1=x.1/\(F x).2.1=x.2.1):∀{l:List (Nat × Nat × Nat)} {i a b:Nat},Ch lt p l a b->Ch lt p (l.modify i F) a b
 | [],i,_,_,h=>by cases i <;> exact h
 | x::r,0,a,b,h=>by
  show(F x).1=a/\1<=(F x).2.1/\cq lt p a (F x).2.1/\Ch lt p r (a+(F x).2.1) b;rw [(hF x).1,(hF x).2];exact h
 | x::r,i+1,a,b,h=>⟨h.1,h.2.1,h.2.2.1,h.2.2.2.mod hF⟩
theorem zY {i e:Nat} {Q:Bool->SortSt->Prop} (W:WO lt) (hc:sX prog w A s κ f lt N) (ha:Al N p) (hz:e<=p.size) (h:Ch lt p pd.toList 0 e) (hi:i+1<pd.size)
  (fin:∀p' DP g',Sm 0 e p p'->Ch lt p' DP.toList 0 e->DP.size+1=pd.size->Q true (St κ f p' DP g')):wpS (model prog w) A E s (mergeAt' i) Q (St κ f p pd g):=by
 have e0:pd.toList=pd.toList.take i++(pd[i]::pd[i+1]::pd.toList.drop (i+2)):=by
  have h1:i<pd.toList.length:=by simp;omega
  have h2:i+1<pd.toList.length:=by simp;omega
  conv=>lhs;rw [<- Qy i pd.toList,PV h1,PV h2]
  rfl
 rw [e0] at h;obtain⟨b,c1,⟨a1,a2,a3,a4,a5,a6,c2⟩⟩:=h.cut;generalize hx:pd[i]=x at *
 generalize hy:pd[i+1]=y at *
 obtain⟨sa,na,pw⟩:=x;obtain⟨sb,nb,q⟩:=y;dsimp only at a1 a2 a3 a4 a5 a6 c2;subst a1 a4;have l2:=c2.len
 refine EJ W hc ha (by rw [OO (by omega),hx]) (by rw [OO hi,hy]) rfl a2 a5 (by omega) a3 a6 fun p' g' sm r=>?_
 have e1:((pd.setIfInBounds i (sa,na+nb,pw)).eraseIdxIfInBounds (i+1)).toList=pd.toList.take i++((sa,na+nb,pw)::pd.toList.drop (i+2)):=by
  rw [show((pd.setIfInBounds i (sa,na+nb,pw)).eraseIdxIfInBounds (i+1)).toList=(pd.toList.set i (sa,na+nb,pw)).eraseIdx (i+1) by simp [Array.eraseIdxIfInBounds,hi],Qm,Ua,Vk (OR _),RI (by simp;omega),Vl (by omega)];simp
 refine fin p' _ g' (sm.mono (Pg _) (by omega)) ?_ (by have:=congrArg QB e1;rw [PY] at this;rw [this];simp;omega);rw [e1];exact(c1.keep fun k h1 h2=>sm.out k (.inl h2)).app ⟨rfl,by show 1<=na+nb;omega,r,by rw [<- QW];exact c2.keep fun k h1 h2=>sm.out k (.inr h1)⟩
theorem ite_le {c:Prop} [Decidable c] {a b n:Nat} (h1:a<n) (h2:b<n):(if c then a else b)<n:=by split <;> assumption
theorem BO {Q:Unit->SortSt->Prop} (W:WO lt) (hc:sX prog w A s κ f lt N) (ha:Al N p) (fin:∀p' st,arrOf st=p'.map f->failedOf st=none->p'.toList.Perm p.toList->cq lt p' 0 p.size->Q () st):wpS (model prog w) A E s sortRuns' Q (St κ f p #[] 7):=by
 rw [sortRuns'_eq];refine wpS_bind (wpS_get ?_);dsimp only;rw [Pj];generalize minRun' p.size p.size 0=mr;refine wpS_bind (wpS_mono (wpS_forRange (I:=fun i c st=>∃lo p' pd g,c=(none,lo)/\st=St κ f p' pd g/\Sm 0 p.size p p'/\Ch lt p' pd.toList 0 lo/\lo<=p.size/\i<=lo)
  (Q:=fun c st=>∃p' pd g,c=(none,p.size)/\st=St κ f p' pd g/\Sm 0 p.size p p'/\Ch lt p' pd.toList 0 p.size) ?_ ?_ ⟨0,p,#[],7,rfl,rfl,.refl p,rfl,Pg _,Pg _⟩) ?_)
 ·rintro i c st _ hi ⟨lo,q,pd,g,rfl,rfl,sm,ch,b1,b2⟩
  have sz:=sm.sz;dsimp only;refine fk (fun z=>?_) fun z=>?_
  ·obtain rfl:lo=p.size:=by omega
   exact wpS_pure ⟨q,pd,g,rfl,rfl,sm,ch⟩
  refine wpS_bind (yt W hc (sm.al ha) (by omega) (by omega) fun n q1 n1 n2 s1 r1=>?_);dsimp only;have H0:Ch lt q1 pd.toList 0 lo:=ch.keep fun k _ h2=>s1.out k (.inl h2)
  have BP:=sm.trans (s1.mono (Pg _) (by omega));apply share1 (M:=model prog w) (A:=A) (E:=E) (s:=s) (C:=fun(n:Nat) st=>∃q,st=St κ f q pd g/\Sm 0 p.size p q/\Ch lt q pd.toList 0 lo/\cq lt q lo n/\1<=n/\lo+n<=p.size)
  ·intro key
   refine fk (fun z=>?_) (fun z=>?_)
   rotate_left
   ·generalize hx:n=x
    exact key x _ ⟨q1,rfl,BP,H0,hx ▸ r1,hx ▸ n1,by omega⟩
   ·refine wpS_bind (wpS_lift (wpAny_rule ⟨rfl,?_⟩))
    have N6:=BP.sz;refine wpS_bind (EI W hc (BP.al ha) n1 (by omega) (by omega) r1 fun q2 s2 r2=>?_);exact key _ _ ⟨q2,rfl,BP.trans (s2.mono (Pg _) (by omega)),H0.keep fun k _ h2=>s2.out k (.inl h2),r2,by omega,by omega⟩
  ·clear sm ch sz r1 s1 H0 BP
   rintro n _ ⟨q,rfl,sm,ch,r1,n1,n2⟩;have fin2:∀{q:Array Nat} {pd:Array (Nat × Nat × Nat)} {g:Nat},Sm 0 p.size p q->Ch lt q pd.toList 0 lo->cq lt q lo n->∃lo' p' DP g',((none,lo+n):Option Unit × Nat)=(none,lo')/\St κ f q (pd.push (lo,n,0)) g=St κ f p' DP g'/\Sm 0 p.size p p'/\Ch lt p' DP.toList 0 lo'/\lo'<=p.size/\i+1<=lo':=fun {q pd g} sm ch r=>by
    refine⟨lo+n,q,_,g,rfl,rfl,sm,?_,n2,by omega⟩;rw [SH];exact ch.app ⟨rfl,n1,r,rfl⟩
   refine wpS_bind (wpS_get ?_);rw [show pendingOf (St κ f q pd g)=pd from rfl];cases hb:pd.back? with
   | none=>exact wpS_bind (wpS_modify (wpS_pure (fin2 sm ch r1)))
   | some x =>
    obtain⟨s1,m1,x2⟩:=x;dsimp only;refine wpS_bind (wpS_mono (wpS_forRange (I:=fun _ c st=>∃q pd g,c=(none,())/\st=St κ f q pd g/\Sm 0 p.size p q/\Ch lt q pd.toList 0 lo/\cq lt q lo n) (Q:=fun c st=>∃q pd g,c=(none,())/\st=St κ f q pd g/\Sm 0 p.size p q/\Ch lt q pd.toList 0 lo/\cq lt q lo n) ?_ (fun _ _ h=>h) ⟨q,pd,g,rfl,rfl,sm,ch,r1⟩) ?_)
    ·clear hb sm ch r1
     rintro j c st _ hj ⟨q,pd,g,rfl,rfl,sm,ch,r1⟩;refine wpS_bind (wpS_get ?_);rw [show pendingOf (St κ f q pd g)=pd from rfl];have stop:wpS (model prog w) A E s (pure (ForInStep.done ((none,()):Option Unit × Unit))) (fun r cA=>match r with|.done c'=>∃q pd g,c'=(none,())/\cA=St κ f q pd g/\Sm 0 p.size p q/\Ch lt q pd.toList 0 lo/\cq lt q lo n|.yield c'=>∃q pd g,c'=(none,())/\cA=St κ f q pd g/\Sm 0 p.size p q/\Ch lt q pd.toList 0 lo/\cq lt q lo n) (St κ f q pd g):=wpS_pure ⟨q,pd,g,rfl,rfl,sm,ch,r1⟩
     by_cases h1:pd.size > 1
     ·rw [if_pos h1]
      cases hy:pd[pd.size - 2]? with
      | none=>exact stop
      | some y =>
       obtain⟨y1,y2,y3⟩:=y;refine fk (fun _=>stop) fun _=>?_
       have sz:=sm.sz;refine wpS_bind (zY W hc (sm.al ha) (by omega) ch (by omega) fun q2 H3 g2 s2 c2 _=>?_);exact wpS_pure ⟨q2,H3,g2,rfl,rfl,sm.trans (s2.mono (OR _) (by omega)),c2,r1.keep fun k h1 h2=>s2.out k (.inr h1)⟩
     ·rw [if_neg h1]
      exact stop
    ·rintro c st ⟨q,pd,g,rfl,rfl,sm,ch,r1⟩
     refine wpS_bind (wpS_modify (wpS_bind (wpS_modify (wpS_pure ?_))));refine fin2 sm ?_ r1;rw [Array.toList_modify];refine Ch.mod ?_ ch;exact fun x=>⟨rfl,rfl⟩
 ·rintro c st ⟨lo,q,pd,g,rfl,rfl,sm,ch,b1,b2⟩
  obtain rfl:lo=p.size:=by omega
  exact⟨q,pd,g,rfl,rfl,sm,ch⟩
 ·rintro c st ⟨q,pd,g,rfl,rfl,sm,ch⟩
  dsimp only;refine wpS_bind (wpS_mono (wpS_forRange (I:=fun i c st=>∃q pd g,c=(none,())/\st=St κ f q pd g/\Sm 0 p.size p q/\Ch lt q pd.toList 0 p.size/\(pd.size<=1\/pd.size+i<=p.size)) (Q:=fun c st=>∃q pd g,c=(none,())/\st=St κ f q pd g/\Sm 0 p.size p q/\Ch lt q pd.toList 0 p.size/\pd.size<=1) ?_ ?_ ⟨q,pd,g,rfl,rfl,sm,ch,.inr (by have:=ch.len;simp at this;omega)⟩) ?_)
  ·clear sm ch
   rintro j c st _ hj ⟨q,pd,g,rfl,rfl,sm,ch,b⟩;refine wpS_bind (wpS_get ?_);rw [show pendingOf (St κ f q pd g)=pd from rfl];refine fk (fun z=>wpS_pure ⟨q,pd,g,rfl,rfl,sm,ch,z⟩) fun z=>?_
   have sz:=sm.sz;refine wpS_bind (zY W hc (sm.al ha) (by omega) ch (Nat.add_lt_of_lt_sub (ite_le (by omega) (by omega))) fun q2 H3 g2 s2 c2 l2=>?_);exact wpS_pure ⟨q2,H3,g2,rfl,rfl,sm.trans s2,c2,by omega⟩
  ·rintro c st ⟨q,pd,g,rfl,rfl,sm,ch,b⟩
   exact⟨q,pd,g,rfl,rfl,sm,ch,by omega⟩
  ·rintro c st ⟨q,pd,g,rfl,rfl,sm,ch,b⟩
   refine wpS_pure (fin q _ rfl rfl sm.pm ?_);generalize hl:pd.toList=l at ch;have ll:l.length<=1:=by rw [<- hl];simpa using b
   cases l with
   | nil =>
    have e:0=p.size:=ch;exact cq.one (by omega)
   | cons x l =>
    cases l with
    | nil =>
     obtain⟨_,_,h3,h4⟩:=ch;have e:0+x.2.1=p.size:=h4
     rw [show p.size=x.2.1 by omega];exact h3
    | cons y l=>simp at ll
end
end Ts
namespace L2
open PySem PySem.W PySem.Calls PyProof.Rows Ts
noncomputable def Arr (n:Nat) (p:Array Nat):Prop:=p.size=n/\p.toList.Perm (Pa n)
section
variable {prog:Pp} {w:Qn} {A:Pm} {E:OE->OH->Prop} {s:OH}
theorem j0 {a:Pf} {vs:List OE} {n:Nat} {κ:SortKind} {lt:Nat->Nat->Bool} {P:PySem.Fin->OH->Prop} (W:WO lt) (ho:s.heap.get? a=some (seqObj "list" vs.toArray n)) (hlen:vs.length<=O6)
  (hk:2<=vs.length->∀h',(∀b o,b≠a->s.heap.get? b=some o->h'.get? b=some o)->∀Q:SortKind->OH->Prop,Q κ { s with heap:=h' }->O3 (model prog w) A (keyKind' vs.toArray) Q (fun _ _=>False) { s with heap:=h' })
  (hc:∀h',(∀b o,b≠a->s.heap.get? b=some o->h'.get? b=some o)->∀i j (C:Bool->OH->Prop),i<vs.length->j<vs.length->C (lt i j) { s with heap:=h' } ->
   O3 (model prog w) A (keyLt' κ (vs.getD i P7) (vs.getD j P7)) C (fun _ _=>False) { s with heap:=h' })
  (fin:∀p h' c,Arr vs.length p->(∀i j,i<j->j<vs.length->lt (p.getD j 0) (p.getD i 0)=false)->(∀b o,b≠a->s.heap.get? b=some o->h'.get? b=some o)->h'.get? a=some (seqObj "list" (RN (p.toList.map fun i=>vs.getD i P7)) c)->P (.done (.ret .none)) { s with heap:=h' }) :
  O3 (model prog w) A (Builtin.«list.sort» ⟨[.ref a],[]⟩) P E s:=by
 have ha:a<s.heap.objs.size:=O4 ho;obtain⟨e1,Hn⟩:∃e1,(s.heap.update a (Qx fun _=>(#[]:Array OE))).get? a=some (seqObj "list" #[] e1):=⟨_,get?_update_seq ho fun _=>#[]⟩;generalize hH:((s.heap.update a (Qx fun _=>(#[]:Array OE))).push (seqObj "tuple" vs.toArray 0)).push (seqObj "list" #[] 0)=H;have EK:H.get? a=some (seqObj "list" #[] e1):=by
  rw [<- hH,RS _ _ _ (by rw [size_push',SX];exact O8 (QK ha)),RS _ _ _ (by rw [SX];exact O8 ha)];exact Hn
 have keep:∀b o,b≠a->s.heap.get? b=some o->H.get? b=some o:=fun b o hb q=>by
  have bT:b<s.heap.objs.size:=O4 q;rw [<- hH,RS _ _ _ (by rw [size_push',SX];exact O8 (QK bT)),RS _ _ _ (by rw [SX];exact O8 bT),Tn _ _ _ _ hb];exact q
 have yx:∀p (arr:Array OE),Arr vs.length p->(∀i j,i<j->j<vs.length->lt (p.getD j 0) (p.getD i 0)=false)->arr=RN (p.toList.map fun i=>vs.getD i P7)->P (.done (.ret .none)) { s with heap:=H.update a (Qx fun _=>arr) }:=fun p arr h1 h2 h3=>by
  subst h3;refine fin p _ _ h1 h2 (fun b o hb q=>?_) (get?_update_seq EK fun _=>_);rw [Tn _ _ _ _ hb];exact keep b o hb q
 rw [list_sort_plain];refine OB (listItems_at ho rfl ?_);refine OB (listUpdate_at ho rfl ?_ (by rw [Qk];exact hlen) (Pg _));refine OB (seqEpoch_at Hn rfl ?_);refine OB (wpAny_newTuple ?_ hlen);refine OB (wpAny_newList ?_ (Pg _));refine wpAny_holding ?_;show O3 (model prog w) A _ P E { s with heap:=((s.heap.update a (Qx fun _=>(#[]:Array OE))).push (seqObj "tuple" vs.toArray 0)).push (seqObj "list" #[] 0) }
 rw [hH];dsimp only;have hr:(Pa vs.length).map (fun i=>vs.getD i P7)=vs:=by
  apply Qe (by simp);intro i a1 a2;simp [a2]
 by_cases h2:vs.toArray.size<2
 ·rw [if_pos h2,if_pos h2]
  refine OB (OC ?_);rw [StateT.run_pure];refine OB (OC ?_);dsimp only;refine OB (seqEpoch_at EK rfl ?_);refine OB (listUpdate_at EK rfl ?_ (hsz2:=by rw [Pj];show(pairsOf vs).size<=_;rw [pairsOf_size];exact Ub hlen));simp only [bne_self_eq_false,OQ,if_false];refine OC (yx (RN (Pa vs.length)) _ ⟨by simp,by simp⟩ (fun i j h1 h3=>?_) ?_)
  ·rw [Qk] at h2;omega
  ·show Array.map (·.2) (pairsOf vs)=_
   apply Array.toList_inj.mp;rw [Uz,pairsOf_toList];show _=(Pa vs.length).map (fun i=>vs.getD i P7)
   rw [hr];exact List.map_snd_zip (by simp)
 ·rw [if_neg h2,if_neg h2]
  rw [Qk] at h2;refine OB (wpAny_mono (hk (by omega) _ keep _ ?_) (fun κ' s' hq=>hq) fun _ _ x=>x.elim);have it:∀i,(kas_item (vs.toArray.zip vs.toArray) i).1=vs.getD i P7:=fun i=>by rw [kat_item rfl]
  have L9:U4 κ (vs.toArray.zip vs.toArray) #[] 7 none=St κ (kas_item (vs.toArray.zip vs.toArray)) (RN (Pa vs.length)) #[] 7:=by
   have e:=kas_range (vs.toArray.zip vs.toArray);rw [show(vs.toArray.zip vs.toArray).size=vs.length by simp] at e;show _=U4 κ ((RN (Pa vs.length)).map (kas_item (vs.toArray.zip vs.toArray))) #[] 7 none
   rw [e]
  rw [L9];have Ma:sX prog w A { s with heap:=H } κ (kas_item (vs.toArray.zip vs.toArray)) lt vs.length:=fun i j hi hj=>by
   rw [it,it];exact hc _ keep i j _ hi hj ⟨rfl,rfl⟩
  have al:Al vs.length (RN (Pa vs.length)):=fun k hk=>by
   have hk:k<vs.length:=by simpa using hk
   simp [PJ,hk]
  refine OB (wpAny_mono (BO (E:=E) W Ma al (Q:=fun _ st=>∃p:Array Nat,arrOf st=p.map (kas_item (vs.toArray.zip vs.toArray))/\failedOf st=none/\Arr vs.length p/\∀i j,i<j->j<vs.length->lt (p.getD j 0) (p.getD i 0)=false) fun p' st e1 e2 e3 e4=>⟨p',e1,e2,⟨by simpa using e3.length_eq,e3⟩,fun i j gu hj=>?_⟩) ?_ fun _ _ e=>e)
  ·have:=e4 i j gu (by simpa using hj)
   simpa [aG] using this
  rintro⟨⟨⟩,cA⟩ s' ⟨rfl,p,Mb,hf,hp,H4⟩;dsimp only;have H5:=kat_snds (ks:=vs) rfl Mb
  have hsz:(RN (p.toList.map fun i=>vs.getD i P7)).size=vs.length:=by rw [Qk,Lm9,PY,hp.1]
  rw [H5];refine OB (seqEpoch_at EK rfl ?_);refine OB (listUpdate_at EK rfl ?_ (Pg _) (by rw [hsz];exact Ub hlen));rw [hf];simp only [bne_self_eq_false,OQ,if_false];exact OC (yx p _ hp H4 rfl)
end
end L2
namespace L2
open PySem PySem.W PySem.Calls PyProof.Rows
noncomputable def pJ (A:Pm) (s:OH) (u v:OE) (b:Bool):Prop :=
 ∀(prog:Pp) (w:Qn) (E:OE->OH->Prop) (Q:OE->OH->Prop),Q (.bool b) s->O3 (model prog w) A (richCompare .Lt u v) Q E s
inductive xC (A:Pm) (s:OH):List OE->List OE->Bool->Prop
 | nn:xC A s [] [] false
 | nc {w:OE} {ws:List OE}:xC A s [] (w::ws) true
 | cn {v:OE} {vs:List OE}:xC A s (v::vs) [] false
 | eq {v w:OE} {vs ws:List OE} {r:Bool} (e:QG A s v w true) (h:xC A s vs ws r):xC A s (v::vs) (w::ws) r
 | ne {v w:OE} {vs ws:List OE} {r:Bool} (e:QG A s v w false) (h:pJ A s v w r):xC A s (v::vs) (w::ws) r
section
open PySem.SeqAt
open PySem.AutoSeq1 (wpAny_loadPart')
open PySem.MeetsSeq PySem.MeetsSeq2 PySem.MeetsSeq3
theorem mq (l b:Pf) (items eQ:Array OE) (n n2:Nat) (dd Bp:Option Pf) (sl sJ:Array (Option OE)) (r:Bool) :
  Meets (Builtin.«tuple.__lt__» ⟨[.ref l,.ref b],[]⟩)
   (fun A R s=>s.heap.get? l=some { cls:=.type "tuple",dict:=dd,data:=.seq items n,slots:=sl }/\s.heap.get? b=some { cls:=.type "tuple",dict:=Bp,data:=.seq eQ n2,slots:=sJ } /\
    xC A.in1 s items.toList eQ.toList r/\R (.ok (.ret (.bool r))) s) :=
 .of_wp fun prog w A R s h=>by
  obtain⟨hp,g,d,tk,os⟩:=s;obtain⟨hl,hb,hd,h⟩:=h;have f2:=AutoSeq1.sub_tuple_tuple
  wp_walk using wpAny_loadPart' hl,wpAny_loadPart' hb,wpAny_forIn_list _ (fun rest b s'=>b.1=none/\s'=⟨hp,g,d,tk,os⟩/\∃(vs ws:List OE),rest=vs.zip ws /\
   xC A.in1 ⟨hp,g,d,tk,os⟩ vs ws r/\vs.length+eQ.size=ws.length+items.size) _
  case turn =>
   rintro⟨y,x⟩ rest b s' ⟨hb',rfl,vs,ws,hz,H6,hlen⟩;cases H6 with
   | nn=>cases hz
   | nc=>cases hz
   | cn=>rw [List.zip_nil_right] at hz;cases hz
   | @eq v w' vs' ws' _ e hr =>
    rw [Rj] at hz;injection hz with H7 hrest;injection H7 with hy hx;subst hy hx;simp only [OP] at hlen;refine OB (e prog w _ _ ?_)
    wp_walk
    exact⟨rfl,rfl,_,_,hrest,hr,by omega⟩
   | @ne v w' vs' ws' _ e hr =>
    rw [Rj] at hz;injection hz with H7 hrest;injection H7 with hy hx;subst hy hx;refine OB (e prog w _ _ ?_);have H4:=hr prog w
    wp_walk using H4
    exact⟨_,rfl,by simpa using h⟩
  case fin =>
   rintro⟨b1,b2⟩ s' ⟨hb',rfl,vs,ws,hz,H6,hlen⟩;simp only at hb';subst hb';have hv:r=decide (items.size<eQ.size):=by
    cases H6 with
    | nn=>simp only [Pz] at hlen;exact(decide_eq_false (by omega)).symm
    | nc=>simp only [Pz,OP] at hlen;exact(decide_eq_true (by omega)).symm
    | cn=>simp only [Pz,OP] at hlen;exact(decide_eq_false (by omega)).symm
    | eq e hr=>rw [Rj] at hz;cases hz
    | ne e hr=>rw [Rj] at hz;cases hz
   rw [hv] at h
   wp_walk
   exact⟨_,rfl,by simpa [Builtin.Tuple.tupleCompareSizes] using h⟩
  case h =>
   exact⟨rfl,rfl,items.toList,eQ.toList,rfl,hd,by simp;omega⟩
end
theorem pK {A:Pm} {s:OH} {l b:Pf} {items eQ:Array OE} {r:Bool} (hl:IsTup s.heap l items) (hb:IsTup s.heap b eQ) (hu:A.units<cLine) (hd:xC A.in1 s items.toList eQ.toList r):pJ A s (.ref l) (.ref b) r:=by
 intro prog w E Q h;obtain⟨⟨cls,dd,data,sl⟩,ho,hc,n,oW⟩:=id hl;obtain⟨⟨HO,Bp,data2,sJ⟩,sL,En,n2,hd2⟩:=id hb;simp only at hc oW En hd2;subst hc oW En hd2;exact richCompare_meets_room (op:=.Lt) ⟨_,ho,rfl⟩ ⟨_,sL,rfl⟩ PySem.F.slot_tuple_lt PySem.F.entry_tuple_lt (PySem.F.args_tuple_lt_2 _ _) (mq l b items eQ n n2 dd Bp sl sJ r)
  ⟨ho,sL,hd,show Value.bool r≠U7/\Q (.bool r) s from⟨(fun x=>nomatch x),h⟩⟩ hu
end L2
namespace M
open PySem PySem.Spec PyProof.Rows
def jV (f:T->T->Bool):List T->List T->Bool
 | [],[]=>false
 | [],_::_=>true
 | _::_,[]=>false
 | a::r,b::q=>if a=b then jV f r q else f a b
def ltN:Nat->T->T->Bool
 | _+1,.int a,.int b=>decide (a<b)
 | _+1,.int _,.str _=>true
 | _+1,.int _,.tup _=>true
 | _+1,.str a,.str b=>decide (a<b)
 | _+1,.str _,.tup _=>true
 | n+1,.tup a,.tup b=>jV (ltN n) a b
 | _,_,_=>false
noncomputable def shl (f:T->T->Bool):List T->List T->Bool
 | a::r,b::q=>f a b && shl f r q
 | _,_=>true
noncomputable def nJ:Nat->T->T->Bool
 | _+1,.int _,.int _=>true
 | _+1,.str _,.str _=>true
 | n+1,.tup a,.tup b=>shl (nJ n) a b
 | _,_,_=>false
theorem rH {f:T->T->Bool}:∀a:List T,jV f a a=false
 | []=>rfl
 | a::r=>by rw [jV,if_pos rfl];exact rH r
theorem iZ:∀(n:Nat) (a:T),ltN n a a=false
 | 0,a=>by cases a <;> rfl
 | n+1,a=>by
  cases a <;> first|rfl|skip
  ·exact decide_eq_false (Int.lt_irrefl _)
  ·exact decide_eq_false (List.lt_irrefl _)
  ·exact rH _
theorem rI {f:T->T->Bool} {n:Nat} (hf:∀a b,kd n a=true->kd n b=true->a≠b->f a b=true\/f b a=true):∀a b:List T,a.all (kd n)=true->b.all (kd n)=true->a≠b->jV f a b=true\/jV f b a=true
 | [],[],_,_,h=>absurd rfl h
 | [],_::_,_,_,_=>.inl rfl
 | _::_,[],_,_,_=>.inr rfl
 | a::r,b::q,ha,hb,h=>by
  rw [PK,ON] at ha hb;rw [jV,jV];by_cases e:a=b
  ·subst e
   rw [if_pos rfl,if_pos rfl];exact rI hf r q ha.2 hb.2 fun z=>h (by rw [z])
  ·rw [if_neg e,if_neg (Qz e)]
   exact hf a b ha.1 hb.1 e
theorem rJ {a b:Cs} (h:a≠b):a<b\/b<a:=by
 by_cases h1:a<b
 ·exact .inl h1
 ·by_cases h2:b<a
  ·exact .inr h2
  ·exact absurd (List.le_antisymm (List.not_lt.mp h2) (List.not_lt.mp h1)) h
theorem g6:∀(n:Nat) (a b:T),kd n a=true->kd n b=true->a≠b->ltN n a b=true\/ltN n b a=true
 | 0,a,_,h,_,_=>(Hi h).elim
 | n+1,a,b,ha,hb,h=>by
  cases a <;> first|cases ha|skip
  ·cases b <;> first|cases hb|skip
   ·rename_i i j
    show decide (i<j)=true\/decide (j<i)=true;rw [decide_eq_true_eq,decide_eq_true_eq];have:i≠j:=fun e=>h (by rw [e])
    omega
   ·exact .inl rfl
   ·exact .inl rfl
  ·cases b <;> first|cases hb|skip
   ·exact .inr rfl
   ·rename_i i j
    show decide (i<j)=true\/decide (j<i)=true;rw [decide_eq_true_eq,decide_eq_true_eq];exact rJ fun e=>h (by rw [e])
   ·exact .inl rfl
  ·cases b <;> first|cases hb|skip
   ·exact .inr rfl
   ·exact .inr rfl
   ·exact rI (fun a b=>g6 n a b) _ _ ha hb fun e=>h (by rw [e])
theorem kH {f:T->T->Bool} (pF:∀a,f a a=false) (hf:∀a b c,f a b=true->f b c=true->f a c=true):∀a b c:List T,jV f a b=true->jV f b c=true->jV f a c=true
 | [],[],_,h1,_=>by cases h1
 | [],_::_,[],_,h2=>by cases h2
 | [],_::_,_::_,_,_=>rfl
 | _::_,[],_,h1,_=>by cases h1
 | _::_,_::_,[],_,h2=>by cases h2
 | a::r,b::q,c::t,h1,h2=>by
  rw [jV] at h1 h2 ⊢;by_cases e1:a=b
  ·subst e1
   rw [if_pos rfl] at h1;by_cases e2:a=c
   ·subst e2
    rw [if_pos rfl] at h2 ⊢;exact kH pF hf r q t h1 h2
   ·rw [if_neg e2] at h2 ⊢;exact h2
  ·rw [if_neg e1] at h1
   by_cases e2:b=c
   ·subst e2
    rw [if_neg e1];exact h1
   ·rw [if_neg e2] at h2
    have h3:=hf a b c h1 h2;have e3:a≠c:=fun z=>by subst z;rw [pF] at h3;cases h3
    rw [if_neg e3];exact h3
theorem H8 {n:Nat} {a b:T} (h:ltN (n+1) a b=true):(∃i,a=.int i)\/(∃z,a=.str z)\/∃xs,a=.tup xs:=by
 cases a with
 | int i=>exact .inl ⟨i,rfl⟩
 | str z=>exact .inr (.inl ⟨z,rfl⟩)
 | tup xs=>exact .inr (.inr ⟨xs,rfl⟩)
 | _=>cases h
theorem EL {n:Nat} {i:Int} {b:T} (h:ltN (n+1) (.int i) b=true):(∃j,b=.int j/\i<j)\/(∃z,b=.str z)\/∃xs,b=.tup xs:=by
 cases b with
 | int j=>exact .inl ⟨j,rfl,of_decide_eq_true h⟩
 | str z=>exact .inr (.inl ⟨z,rfl⟩)
 | tup xs=>exact .inr (.inr ⟨xs,rfl⟩)
 | _=>cases h
theorem BQ {n:Nat} {z:Cs} {b:T} (h:ltN (n+1) (.str z) b=true):(∃y,b=.str y/\z<y)\/∃xs,b=.tup xs:=by
 cases b with
 | str y=>exact .inl ⟨y,rfl,of_decide_eq_true h⟩
 | tup xs=>exact .inr ⟨xs,rfl⟩
 | _=>cases h
theorem yy {n:Nat} {xs:List T} {b:T} (h:ltN (n+1) (.tup xs) b=true):∃ys,b=.tup ys/\jV (ltN n) xs ys=true:=by
 cases b with
 | tup ys=>exact⟨ys,rfl,h⟩
 | _=>cases h
theorem cD:∀(n:Nat) (a b c:T),ltN n a b=true->ltN n b c=true->ltN n a c=true
 | 0,a,b,_,h,_=>by cases h
 | n+1,a,b,c,h1,h2=>by
  rcases H8 h1 with⟨i,rfl⟩|⟨z,rfl⟩|⟨xs,rfl⟩
  ·rcases EL h1 with⟨j,rfl,hj⟩|⟨y,rfl⟩|⟨ys,rfl⟩
   ·rcases EL h2 with⟨k,rfl,hk⟩|⟨_,rfl⟩|⟨_,rfl⟩
    ·exact decide_eq_true (Int.lt_trans hj hk)
    ·rfl
    ·rfl
   ·rcases BQ h2 with⟨_,rfl,_⟩|⟨_,rfl⟩ <;> rfl
   ·obtain⟨_,rfl,_⟩:=yy h2;rfl
  ·rcases BQ h1 with⟨y,rfl,hy⟩|⟨ys,rfl⟩
   ·rcases BQ h2 with⟨x,rfl,hx⟩|⟨_,rfl⟩
    ·exact decide_eq_true (List.lt_trans hy hx)
    ·rfl
   ·obtain⟨_,rfl,_⟩:=yy h2;rfl
  ·obtain⟨ys,rfl,hy⟩:=yy h1
   obtain⟨zs,rfl,hz⟩:=yy h2;exact kH (iZ n) (cD n) _ _ _ hy hz
theorem BR {n:Nat} {f:Nat->T} (hk:∀i,kd n (f i)=true):Ts.WO (fun i j=>ltN n (f i) (f j)):=by
 refine⟨fun a b h=>?_,fun a b c h1 h2=>?_⟩
 ·cases e:ltN n (f b) (f a) with
  | false=>rfl
  | true=>have z:=cD n _ _ _ h e;rw [iZ] at z;cases z
 ·cases e:ltN n (f c) (f a) with
  | false=>rfl
  | true =>
   by_cases e1:f a=f b
   ·rw [e1] at e;rw [e] at h2;cases h2
   ·rcases g6 n _ _ (hk a) (hk b) e1 with q|q
    ·rw [cD n _ _ _ e q] at h2;cases h2
    ·rw [q] at h1;cases h1
noncomputable def f9 (l:List T):Prop:=l.Pairwise fun x y=>ltN 8 y x=false
theorem uZ {a b:List T} (hk:a.all (kd 8)=true) (p:a.Perm b) (ha:f9 a) (hb:f9 b):a=b :=
 List.Perm.eq_of_pairwise (fun x y hx hy h1 h2=>by
  by_cases e:x=y
  ·exact e
  ·have k:=OD.mp hk
   rcases g6 8 _ _ (k x hx) (k y (p.mem_iff.mpr hy)) e with q|q
   ·rw [q] at h2;cases h2
   ·rw [q] at h1;cases h1) ha hb p
open Classical in
def eB (l:List T):List T:=if h:∃l',l'.Perm l/\f9 l' then choose h else l
theorem ju {l l':List T} (hk:l.all (kd 8)=true) (p:l'.Perm l) (h:f9 l'):eB l=l':=by
 have ex:∃l',l'.Perm l/\f9 l':=⟨l',p,h⟩;unfold eB;rw [dif_pos ex];have z:=Classical.choose_spec ex
 have hk':(Classical.choose ex).all (kd 8)=true:=OD.mpr fun x hx=>OD.mp hk x (z.1.mem_iff.mp hx)
 exact uZ hk' (z.1.trans p.symm) z.2 h
noncomputable def m6:T->Bool
 | .tup (.str _::_)=>true
 | _=>false
noncomputable def yz:T->Bool
 | .tup (.int _::_)=>true
 | _=>false
def dO (fz:Bool):Fn:=fun xs L=>match xs with
 | [x]=>match vw L x with
  | .lst ys=>bD (ys.length<900/\ys.all (kd 8)=true/\(ys.all m6=true\/ys.all yz=true)/\(ys.all fun a=>ys.all fun b=>nJ 8 a b)=true) (eE fz (eB ys) L)
  | _=>.bad
 | _=>.bad
end M
namespace M
open PySem PySem.W PySem.Calls PyProof.Rows L2
section
variable {A:Pm} {s:OH}
theorem zZ {n:Nat}:∀(a b:List T) (vs ws:List OE),vs.length=a.length->ws.length=b.length->shl (nJ n) a b=true ->
  (∀j (h1:j<a.length) (h2:j<b.length) (h3:j<vs.length) (h4:j<ws.length),QG A s vs[j] ws[j] (decide (a[j]=b[j]))/\(nJ n a[j] b[j]=true->pJ A s vs[j] ws[j] (ltN n a[j] b[j])))->xC A s vs ws (jV (ltN n) a b)
 | [],[],[],[],_,_,_,_=>.nn
 | [],b::q,[],w::ws,_,_,_,_=>.nc
 | a::r,[],v::vs,[],_,_,_,_=>.cn
 | a::r,b::q,v::vs,w::ws,l1,l2,hs,h=>by
  rw [shl,ON] at hs;obtain⟨h0,h0'⟩:=h 0 (by simp) (by simp) (by simp) (by simp);have h0:QG A s v w (decide (a=b)):=h0
  have h0':nJ n a b=true->pJ A s v w (ltN n a b):=h0';rw [jV];by_cases e:a=b
  ·rw [decide_eq_true e] at h0
   rw [if_pos e];exact .eq h0 (zZ r q vs ws (by simpa using l1) (by simpa using l2) hs.2 fun j a1 a2 a3 a4=>h (j+1) (by simpa using a1) (by simpa using a2) (by simpa using a3) (by simpa using a4))
  ·rw [decide_eq_false e] at h0
   rw [if_neg e];exact .ne h0 (h0' hs.1)
 | [],[],_::_,_,l,_,_,_=>by simp at l
 | [],[],[],_::_,_,l,_,_=>by simp at l
 | [],_::_,_::_,_,l,_,_,_=>by simp at l
 | [],_::_,[],[],_,l,_,_=>by simp at l
 | _::_,_,[],_,l,_,_,_=>by simp at l
 | _::_,[],_::_,_::_,_,l,_,_=>by simp at l
 | _::_,_::_,_::_,[],_,l,_,_=>by simp at l
theorem bH.lt:∀(n:Nat) {A:Pm} {a b:T} {u v:OE},kd n a=true->kd n b=true->nJ n a b=true->A.units+n<cLine->bH s.heap a u->bH s.heap b v->pJ A s u v (ltN n a b)
 | 0,_,a,_,_,_,h,_,_,_,_,_=>(Hi h).elim
 | n+1,A,a,b,u,v,ha,hb,hs,hu,ka,kb=>by
  cases ka with
  | bl=>cases ha
  | int i t =>
   cases kb with
   | int j t2=>exact fun prog w E Q h=>(PyProof.Rows.lt_int h:O3 (model prog w) A (compareOp .Lt _ _) Q E s)
   | _=>cases hs
  | str z t =>
   cases kb with
   | str z2 t2=>exact fun prog w E Q h=>(Vh (show Q (.bool (decide ((⟨z.toArray⟩:Str).cps.toList<(⟨z2.toArray⟩:Str).cps.toList))) s from h):O3 (model prog w) A (compareOp .Lt _ _) Q E s)
   | _=>cases hs
  | tup ho hc hd hl hi =>
   cases kb with
   | tup ho' hc' hd' hl' hi' =>
    rename_i a1 o1 i1 n1 x1 a2 o2 i2 n2 x2;refine pK ⟨_,ho,hc,_,hd⟩ ⟨_,ho',hc',_,hd'⟩ (by omega) (zZ x1 x2 i1.toList i2.toList (by simp [hl]) (by simp [hl']) hs fun j c1 c2 c3 c4=>?_);have k1:=hi j _ _ (Ge9 c1) (show i1[j]?=some i1.toList[j] by simp)
    have k2:=hi' j _ _ (Ge9 c2) (show i2[j]?=some i2.toList[j] by simp);have d1:=gW ha (Ge9 c1)
    have d2:=gW hb (Ge9 c2);exact⟨bH.eq n d1 d2 (by show A.units+1+n<cLine;omega) k1 k2,fun sh=>bH.lt n d1 d2 sh (by show A.units+1+n<cLine;omega) k1 k2⟩
   | _=>cases hs
end
section
variable {prog:Pp} {w:Qn} {A:Pm} {E:OE->OH->Prop} {s:OH} {Q:Bool->OH->Prop} {n:Nat}
theorem kat_tail:∀(a b:List T) (vs ws:List OE) (i:Nat),0<i->vs.length=a.length->ws.length=b.length->shl (nJ n) a b=true ->
  (∀j (h1:j<a.length) (h2:j<b.length) (h3:j<vs.length) (h4:j<ws.length),QG A s vs[j] ws[j] (decide (a[j]=b[j]))/\(nJ n a[j] b[j]=true->pJ A s vs[j] ws[j] (ltN n a[j] b[j]))) ->
  ∀fin,fin=decide (vs.length<ws.length)->Q (jV (ltN n) a b) s->KatLex prog w A true fin Q (vs.zip ws) i s
 | [],[],[],[],i,_,_,_,_,_,fin,hf,h=>by rw [jV] at h;simp at hf;subst hf;exact kat_nil h
 | [],b::q,[],w'::ws,i,_,_,_,_,_,fin,hf,h=>by rw [jV] at h;simp at hf;subst hf;exact kat_nil h
 | a::r,[],v::vs,[],i,_,_,_,_,_,fin,hf,h=>by rw [jV] at h;simp at hf;subst hf;exact kat_nil h
 | a::r,b::q,v::vs,w'::ws,i,hi,l1,l2,hs,hx,fin,hf,h=>by
  rw [shl,ON] at hs;obtain⟨h0,h0'⟩:=hx 0 (by simp) (by simp) (by simp) (by simp);have h0:QG A s v w' (decide (a=b)):=h0
  have h0':nJ n a b=true->pJ A s v w' (ltN n a b):=h0';rw [jV] at h;rw [Rj];refine kat_cons (h0 prog w _ _ ?_);by_cases e:a=b
  ·rw [if_pos e] at h
   rw [decide_eq_true e];exact kat_yes (kat_tail r q vs ws (i+1) (by omega) (by simpa using l1) (by simpa using l2) hs.2 (fun j a1 a2 a3 a4=>hx (j+1) (by simpa using a1) (by simpa using a2) (by simpa using a3) (by simpa using a4)) fin (by simpa using hf) h)
  ·rw [if_neg e] at h
   rw [decide_eq_false e];refine kat_no ?_;have ei:(true && i == 0)=false:=by
    simp only [Bool.true_and,beq_eq_false_iff_ne];omega
   rw [ei];exact kat_one _ _ (h0' hs.1 prog w _ _ h)
 | [],[],_::_,_,_,_,l,_,_,_,_,_,_=>by simp at l
 | [],[],[],_::_,_,_,_,l,_,_,_,_,_=>by simp at l
 | [],_::_,_::_,_,_,_,l,_,_,_,_,_,_=>by simp at l
 | [],_::_,[],[],_,_,_,l,_,_,_,_,_=>by simp at l
 | _::_,_,[],_,_,_,l,_,_,_,_,_,_=>by simp at l
 | _::_,[],_::_,_::_,_,_,_,l,_,_,_,_,_=>by simp at l
 | _::_,_::_,_::_,[],_,_,_,l,_,_,_,_,_=>by simp at l
theorem EM {t u:T} {vx vy:OE} (hA:A.units+8<cLine) (hk:kd 8 t=true) (hk':kd 8 u=true) (hh:(m6 t=true/\m6 u=true)\/(yz t=true/\yz u=true)) (hs:nJ 8 t u=true) (k1:bH s.heap t vx) (k2:bH s.heap u vy) (hC:Q (ltN 8 t u) s) :
  O3 (model prog w) A (keyLt' (tuples' true) vx vy) Q E s:=by
 have go:∀{a b:T} {r q:List T},t=.tup (a::r)->u=.tup (b::q)->((∃x y,a=.str x/\b=.str y)\/∃x y,a=.int x/\b=.int y)->O3 (model prog w) A (keyLt' (tuples' true) vx vy) Q E s:=fun {a b r q} et eu hab=>by
  subst et eu;cases k1 with
  | tup ho hc hd hl hi =>
   cases k2 with
   | tup ho' hc' hd' hl' hi' =>
    rename_i a1 o1 i1 n1 a2 o2 i2 n2;have Kx:∀j (h:j<(a::r).length) (h':j<i1.toList.length),bH s.heap (a::r)[j] i1.toList[j]:=fun j h h'=>hi j _ _ (Ge9 h) (by simp)
    have at2:∀j (h:j<(b::q).length) (h':j<i2.toList.length),bH s.heap (b::q)[j] i2.toList[j]:=fun j h h'=>hi' j _ _ (Ge9 h) (by simp)
    refine kat_lt ho hd ho' hd' ?_;obtain⟨l1⟩:=i1;obtain⟨l2⟩:=i2;simp only [Qk] at hl hl';cases l1 with
    | nil=>simp at hl
    | cons v vs =>
     cases l2 with
     | nil=>simp at hl'
     | cons w' ws =>
      have e0:=Kx 0 (by simp) (by simp);have f0:=at2 0 (by simp) (by simp)
      have e0:bH s.heap a v:=e0;have f0:bH s.heap b w':=f0
      have hs:shl (nJ 7) (a::r) (b::q)=true:=hs;rw [shl,ON] at hs;have Ky:(a::r).all (kd 7)=true:=hk
      have Kz:(b::q).all (kd 7)=true:=hk';have hC:Q (jV (ltN 7) (a::r) (b::q)) s:=hC
      rw [jV] at hC;have q0:=bH.eq 7 (s:=s) (A:=A) (gW Ky (i:=0) rfl) (gW Kz (i:=0) rfl) (by omega) e0 f0
      show KatLex prog w A true _ Q ((v::vs).zip (w'::ws)) 0 s;rw [Rj];refine kat_cons (q0 prog w _ _ ?_);by_cases e:a=b
      ·rw [if_pos e] at hC
       rw [decide_eq_true e];refine kat_yes (kat_tail (n:=7) r q vs ws 1 (by omega) (by simpa using hl.symm) (by simpa using hl'.symm) hs.2 (fun j c1 c2 c3 c4=>?_) _ (by simp) hC);have z1:bH s.heap r[j] vs[j]:=Kx (j+1) (by simpa using c1) (by simpa using c3)
       have z2:bH s.heap q[j] ws[j]:=at2 (j+1) (by simpa using c2) (by simpa using c4);have d1:kd 7 r[j]=true:=gW Ky (i:=j+1) (by simp [c1])
       have d2:kd 7 q[j]=true:=gW Kz (i:=j+1) (by simp [c2]);exact⟨bH.eq 7 d1 d2 (by omega) z1 z2,fun sh=>bH.lt 7 d1 d2 sh (by omega) z1 z2⟩
      ·rw [if_neg e] at hC
       rw [decide_eq_false e];refine kat_no ?_;show O3 (model prog w) A (oneLt' true v w') Q _ s
       rcases hab with⟨x,y,rfl,rfl⟩|⟨x,y,rfl,rfl⟩
       ·cases e0;cases f0
        exact oneLt_str hC
       ·cases e0;cases f0
        exact oneLt_int hC
 rcases hh with⟨h1,h2⟩|⟨h1,h2⟩
 ·unfold m6 at h1 h2
  split at h1
  ·split at h2
   ·exact go rfl rfl (.inl ⟨_,_,rfl,rfl⟩)
   ·cases h2
  ·cases h1
 ·unfold yz at h1 h2
  split at h1
  ·split at h2
   ·exact go rfl rfl (.inr ⟨_,_,rfl,rfl⟩)
   ·cases h2
  ·cases h1
end
section
variable {X:Cx}
theorem kI {h:Heap}:∀{vs fs:List OE},vs.length=fs.length->(∀i (h1:i<vs.length) (h2:i<fs.length),∃a o xs n,vs[i]=.ref a/\h.get? a=some o/\o.cls=.type "tuple"/\o.data=.seq xs n/\xs[0]?=some fs[i])->KatTups h vs fs
 | [],[],_,_=>.nil
 | [],_::_,l,_=>by simp at l
 | _::_,[],l,_=>by simp at l
 | v::vs,f::fs,l,hh=>by
  obtain⟨a,o,xs,n,e,e1,e2,e3,e4⟩:=hh 0 (by simp) (by simp);have e:v=.ref a:=e
  have e4:xs[0]?=some f:=e4;subst e;exact .cons e1 e2 e3 e4 (kI (by simpa using l) fun i h1 h2=>hh (i+1) (by simpa using h1) (by simpa using h2))
theorem rK {g:G} {ys:List T} {us:List OE} (r:bz g ys us):∀(p:List Nat),(∀i∈p,i<ys.length)->bz g (p.map fun i=>ys.getD i (.int 0)) (p.map fun i=>us.getD i P7)
 | [],_=>.nil
 | i::p,h=>by
  refine .cons ?_ (rK r p fun j hj=>h j (OG _ hj));have hi:=h i OI
  obtain⟨u,e,q⟩:=sF r (Ge9 hi);simp only [Gd9,e,Ge9 hi,SW];exact q
theorem yA {pins:ar} {φ:Fr} {g:G} {L L2:Live} {s:OH} {fz:Bool} {xs:List T} {us:List OE} {w:T} {t' n:Nat} {h':Heap} {a:Pf} (I:Inv X pins φ g L s) (r:bz g xs us) (h:eE fz xs L=.ok w L2) (k:∀b u,s.heap.get? b=some u->h'.get? b=some u) (ha:s.heap.objs.size<=a) (new:h'.get? a=some { cls:=.type "list",data:=.seq us.toArray n }) :
  EP X pins φ g w L2 (.ref a) { s with heap:=h',toks:=t' }:=by
 have f:=I.hok.fresh ha;unfold eE bD at h;split at h
 ·rename_i hz
  unfold mk at h;split at h
  ·cases h
   exact⟨_,Le.lay f,I.laid k ha new,r.lst (n:=n) (o:=default) (Le.lay f) (.inl rfl) (.inl ak) hz⟩
  ·cases h
   refine⟨_,Le.new f,I.new k ha new (r.lst (n:=n) (o:=default) (Le.new f) (.inr rfl) (.inl ak) hz),?_⟩;have:=I.rel.len
   exact .ref (p:=(a,a)) (by show at_ ((_,_)::g.α) _=_;rw [<- this];exact fW)
 ·cases h
end
end M
namespace M
open PySem PySem.Spec PyProof.Rows
open Classical in
def m7:List T->List T
 | []=>[]
 | x::r=>if x∈r then m7 r else x::m7 r
noncomputable def pL (acc:List Cs) (k:Cs):List Cs:=if k∈acc then acc else acc++[k]
noncomputable def dS (ks:List Cs):List Cs:=ks.foldl pL []
noncomputable def bE (ys:List T):Prop:=ys.length<900/\ys.all (kd 8)=true/\(ys.all m6=true\/ys.all yz=true)/\(ys.all fun a=>ys.all fun b=>nJ 8 a b)=true
noncomputable instance (ys:List T):Decidable (bE ys):=by unfold bE;exact inferInstance
def jv (fz:Bool):Fn:=fun xs L=>match xs with
 | [x]=>match vw L x with
  | .lst ys=>bD (bE ys/\ys.all (kd 6)=true/\ys.all m6=true) (eE fz (eB (m7 ys)) L)
  | _=>.bad
 | _=>.bad
def kJ:Fn:=fun xs L=>match xs with
 | [x]=>match vw L x with
  | .lst ys=>match ys.mapM oU with
   | some ks=>bD (ks.length<900) (.ok (.int (dS ks).length) L)
   | none=>.bad
  | _=>.bad
 | _=>.bad
def iE:Fn:=fun xs L=>match xs with
 | [x]=>match vw L x with
  | .lst ys=>match ys.mapM oU with
   | some ks=>bD (ks≠[]) (.ok (.str (ks.getD (argBest (fun i j=>decide (ks.getD i []<ks.getD j [])) (ks.length - 1)) [])) L)
   | none=>.bad
  | _=>.bad
 | xs=>ub xs L
def DQ (x y:T) (L:Live):R T:=match x,y with
 | .lst a,.lst b=>match a.mapM oU,b.mapM oU with
  | some p,some q=>.ok (.bl (decide (p≠q))) L
  | _,_=>cmp .NotEq x y L
 | _,_=>cmp .NotEq x y L
def pM:T->Fn:=fun x ts L=>match x,ts with
 | .str z,[]=>.ok (.bl (SJ ⟨z.toArray⟩)) L
 | _,_=>.bad
def iw (fz:Bool):Fn:=fun xs L=>match xs with
 | [x]=>match vw L x with
  | .aO ks=>bD (bE (av ks)) (eE fz (eB (av ks)) L)
  | _=>.bad
 | _=>.bad
def u3:T->Fn:=fun x ts L=>match x,ts with
 | .ref n,[t]=>match at_ L n with
  | some (.lst xs)=>bD (dat 8 t=true/\xs.all (dat 8)=true) (match xs.findIdx? fun y=>eqT y t with
   | some j=>.ok .bK (put L n (.lst (xs.eraseIdx j)))
   | none=>.bad)
  | _=>.bad
 | _,_=>.bad
end M
namespace M
open PySem
structure Ct where
 fn:List (Str × Fn)
 co:List (Str × T)
 me:List (Str × List (Str × Fn))
 fl:List Str
 us:List Str
 lv:List (Nat × Nat)
structure Sg where
 N:List Str
 sc:Scope
 fc:List (Str × Fn)
structure Bd where
 E:Expr->SE
 T:Expr->ST
 S:Stmt->SS
noncomputable def Ct.fz (Γ:Ct) (p:Pos):Bool:=!(Γ.lv.any fun q=>q.1 == p.line && q.2 == p.col)
noncomputable def DR (N:List Str) (x:Str):Option Nat:=N.findIdx? (· == x)
noncomputable def Sg.at (S:Sg) (x:Str):Option Nat:=match S.sc.names.lookup x with
 | some .local=>DR S.N x
 | some .cell=>DR S.N x
 | some .free=>DR S.N x
 | _=>none
noncomputable def Sg.own (S:Sg) (x:Str):Option Nat:=match S.sc.names.lookup x with
 | some .local=>DR S.N x
 | some .cell=>DR S.N x
 | _=>none
noncomputable def Sg.gl (S:Sg) (x:Str):Bool:=match S.sc.names.lookup x with
 | some .globalImplicit=>true
 | _=>false
def vi (n:Nat) (k:Int):SE:=b2 (v n) (c (.int k)) ix
def blt (x:Str) (fz:Bool):Option Fn:=[(("len":Str),cW),("list",dC fz),("tuple",gA),("min",iE),("isinstance",AK),("dict",jb),("sorted",dO fz)].lookup x
noncomputable def S (s:String):Cs:=(Rg s).cps.toList
noncomputable def aW:Ty->Option (T->Fn):=fun y=>match y with|.l=>some xH|_=>none
noncomputable def cZ:Ty->Option (T->Fn):=fun y=>match y with|.s=>some da|_=>none
def fQ:Ty->Option (T->Fn):=fun y=>match y with|.d=>some lI|_=>none
def eR:Ty->Option (T->Fn):=fun y=>match y with|.d=>some uc|_=>none
def jw:Ty->Option (T->Fn):=fun y=>match y with|.l=>some u3|_=>none
def aH:Ty->Option (T->Fn):=fun y=>match y with|.s=>some pM|_=>none
def KA (x:Str) (fz:Bool):Option (Ty->Option (T->Fn)):=[(("append":Str),aW),("join",cZ),("get",fQ),("setdefault",eR),("remove",jw),("isupper",aH)].lookup x
noncomputable def mw:List ST->ST
 | []=>no
 | a::r=>match r with
  | []=>a
  | _::_=>xF a (mw r)
noncomputable def sZ:List ST->ST
 | []=>no
 | a::r=>match r with
  | []=>a
  | _::_=>Hf a (sZ r)
noncomputable def eName (Γ:Ct) (S:Sg) (x:Str):SE:=match S.at x with
 | some i=>v i
 | none=>match S.gl x with
  | true=>match Γ.co.lookup x with
   | some t=>c t
   | none=>match Γ.us.contains x,([(("bool":Str),"bool"),("int","int"),("str","str"),("list","list"),("tuple","tuple")]:List (Str × String)).lookup x with
    | true,some n=>c (.cl (.type n))
    | _,_=>no
  | false=>no
noncomputable def BU:Const->SE
 | .int i=>c (.int i)
 | .bool b=>c (.bl b)
 | .none=>c .bK
 | .str x=>match decide (x.cps.toList.length<=lim) with
  | true=>c (.str x.cps.toList)
  | false=>no
 | _=>no
def EN (op:CmpOp) (a b:Expr):T->T->Live->R T:=match op with
 | .NotEq=>match a with
  | .Call ..=>match b with
   | .Call ..=>DQ
   | _=>cmp .NotEq
  | _=>cmp .NotEq
 | op=>cmp op
def u4 (B:Bd) (a:Expr) (ops:List CmpOp) (es:List Expr):SE:=match ops with
 | []=>no
 | op::r=>match r with
  | []=>match es with
   | [b]=>match behindInMarks op b with
    | false=>b2 (B.E a) (B.E b) (EN op a b)
    | true=>no
   | _=>no
  | _::_=>no
def Ho (B:Bd) (a b:Expr):SE:=match sM b with
 | true=>b2 (B.E a) (B.E b) ix
 | false=>no
def EO (Γ:Ct) (B:Bd) (a b:Expr) (p:Pos):SE:=match b with
 | .Slice lo hi st _=>match st with
  | none=>sl (Γ.fz p) (B.E a) (lo.map B.E) (hi.map B.E)
  | some _=>Ho B a b
 | _=>Ho B a b
noncomputable def H9 (S:Sg):Expr->Option Tg
 | .Name x _=>(S.own x).map .one
 | _=>none
def z0 (Γ:Ct) (B:Bd) (S:Sg) (tg e:Expr) (x:Str) (es:List Expr):SI:=match S.gl x && Γ.us.contains x && es.all aC with
 | true=>match x == ("range":Str) with
  | true=>match es with
   | [a]=>ni (c (.int 0)) (B.E a)
   | [a,b]=>ni (B.E a) (B.E b)
   | _=>src (B.E e)
  | false=>src (B.E e)
 | false=>src (B.E e)
def stI (Γ:Ct) (B:Bd) (S:Sg) (tg e:Expr):SI:=match e with
 | .Call (.Name x _) es [] _=>z0 Γ B S tg e x es
 | e=>src (B.E e)
noncomputable def inN (sc:Scope):List Str:=(sc.names.filter fun y=>match y.2 with
 | .local=>true
 | .free=>true
 | _=>false).map (·.1)
noncomputable def u5 (x:Str):Bool:=!(x == ("__debug__":Str)) && !(x == ("__classdict__":Str))
noncomputable def pN (S:Sg) (sc:Scope):Bool:=(match sc.kind with
  | .function=>true
  | _=>false) && (sc.names.all fun y=>match y.2 with
  | .cell=>false
  | .local=>(match sc.names.lookup y.1 with
   | some .local=>true
   | _=>false)
  | .free=>(match S.sc.names.lookup y.1 with
   | some .cell=>true
   | some .free=>true
   | _=>false)
  | _=>true) && decide (inN sc).Nodup && (inN sc).all u5
noncomputable def aM (S:Sg) (sc:Scope):List (Option Nat):=(inN sc).map fun y=>match sc.names.lookup y with
 | some .free=>S.at y
 | _=>none
noncomputable def tests (B:Bd):List Expr->ST
 | []=>yes
 | [k]=>B.T k
 | _=>no
def kL (Γ:Ct) (B:Sg->Bd) (S:Sg) (elt tg iter:Expr) (ifs:List Expr) (sc:Scope) (p:Pos):SE :=
 match H9 ⟨inN sc,sc,[]⟩ tg with
 | some t=>match pN S sc && fY iter && t.slots.all (fun i=>match (aM S sc)[i]? with
   | some none=>true
   | _=>false) with
  | true=>comp (Γ.fz p) (stI Γ (B S) S tg iter) (aM S sc) t (tests (B ⟨inN sc,sc,[]⟩) ifs) ((B ⟨inN sc,sc,[]⟩).E elt)
  | false=>no
 | none=>no
def z6 (Γ:Ct) (S:Sg) (fz:Bool) (x y:Str) (es:List Expr):Option (Fn × List Expr):=match S.gl y && Γ.us.contains y && es.all aC && (Γ.fn.lookup y).isNone with
 | true=>match x == ("sorted":Str) && y == ("set":Str) with
  | true=>match es with
   | [e]=>some (jv fz,[e])
   | _=>none
  | false=>match x == ("len":Str) && y == ("set":Str) with
   | true=>match es with
    | [e]=>some (kJ,[e])
    | _=>none
   | false=>none
 | false=>none
def z7 (fz:Bool) (x:Str) (o:Expr) (m:Str) (ap q:Pos):Option (Fn × List Expr):=match jh o && (ap.endLine == q.line) && x == ("sorted":Str) && m == ("items":Str) && aC o with
 | true=>some (iw fz,[o])
 | false=>none
def nest (Γ:Ct) (S:Sg) (fz:Bool) (x:Str) (l:List Expr):Option (Fn × List Expr):=match l with
 | [e]=>match e with
  | .Call f es ks q=>match ks with
   | []=>match f with
    | .Name y _=>z6 Γ S fz x y es
    | .Attribute o m ap=>match es with
     | []=>z7 fz x o m ap q
     | _=>none
    | _=>none
   | _=>none
  | _=>none
 | _=>none
def u6 (Γ:Ct) (B:Bd) (S:Sg) (x:Str) (es:List Expr) (p:Pos):SE:=match S.gl x && es.all aC with
 | true=>match S.fc.lookup x with
  | some F=>match es with
   | []=>no
   | e::es=>aq F ((e::es).map B.E)
  | none=>match Γ.fn.lookup x with
   | some F=>aq F (es.map B.E)
   | none=>match Γ.us.contains x && !es.isEmpty,blt x (Γ.fz p) with
    | true,some F=>match nest Γ S (Γ.fz p) x es with
     | some q=>aq q.1 (q.2.map B.E)
     | none=>aq F (es.map B.E)
    | _,_=>no
 | false=>no
def u7 (Γ:Ct) (B:Bd) (o:Expr) (m:Str) (ap:Pos) (es:List Expr) (p:Pos):SE:=match jh o && es.all aC && decide (es.length<30) && ap.endLine == p.line with
 | true=>match KA m (Γ.fz p) with
  | some f=>aY f (B.E o) (es.map B.E)
  | none=>no
 | false=>no
def BV (Γ:Ct) (B:Sg->Bd) (S:Sg):Expr->SE
 | .Name x _=>eName Γ S x
 | .Constant k _ _=>BU k
 | .BinOp a op b p=>b2 ((B S).E a) ((B S).E b) (aw (Γ.fz p) op)
 | .Compare a ops es _=>u4 (B S) a ops es
 | .List es p=>match es.all aC with
  | true=>lst (Γ.fz p) (es.map (B S).E)
  | false=>no
 | .Tuple es _ _=>match es.all aC && decide (es.length<=1000) with
  | true=>tup (es.map (B S).E)
  | false=>no
 | .Dict [] [] p=>oY (Γ.fz p)
 | .Subscript a b p=>EO Γ (B S) a b p
 | .ListComp elt [⟨tg,iter,ifs,0⟩] sc p=>kL Γ B S elt tg iter ifs sc p
 | .Call (.Name x _) es [] p=>u6 Γ (B S) S x es p
 | .Call (.Attribute o m ap) es [] p=>u7 Γ (B S) o m ap es p
 | _=>no
def nK (B:Bd) (own:Expr->SE):Expr->ST
 | .UnaryOp .Not a _=>eG (B.T a)
 | .BoolOp .And es _=>mw (es.map B.T)
 | .BoolOp .Or es _=>sZ (es.map B.T)
 | .Compare a ops es p=>tv (own (.Compare a ops es p))
 | .Name x p=>tv (own (.Name x p))
 | .Call f es ks p=>tv (own (.Call f es ks p))
 | .Subscript a b p=>tv (own (.Subscript a b p))
 | .Constant k n p=>tv (own (.Constant k n p))
 | _=>no
noncomputable def Ia (gs:List Comprehension):Option (Expr × Expr × List Expr):=match gs with
 | [⟨tg,iter,ifs,0⟩]=>some (tg,iter,ifs)
 | _=>none
def yB (B:Sg->Bd) (S:Sg) (i:Nat) (e:Expr):SS:=match fP e with
 | true=>asg (.one i) ((B S).E e)
 | false=>j9
def yC (Γ:Ct) (B:Sg->Bd) (S:Sg) (tg e:Expr):SS:=match tg with
 | .Name x p=>match S.own x with
  | some i=>match e with
   | .ListComp elt gs sc p=>match Ia gs with
    | some (tg,iter,ifs)=>asg (.one i) (kL Γ B S elt tg iter ifs sc p)
    | none=>yB B S i e
   | _=>yB B S i e
  | none=>j9
 | .Subscript o i _=>match fP e with
  | true=>sE ((B S).E o) ((B S).E i) ((B S).E e)
  | false=>j9
 | _=>j9
def ER (Γ:Ct) (B:Sg->Bd) (S:Sg):Stmt->SS
 | .Pass _=>pass
 | .Expr e _=>match fP e with
  | true=>ja ((B S).E e)
  | false=>j9
 | .Return none _=>ret (c .bK)
 | .Return (some e) _=>ret ((B S).E e)
 | .If k a b _=>iff ((B S).T k) (af (a.map (B S).S)) (af (b.map (B S).S))
 | .Assign [tg] e _=>yC Γ B S tg e
 | .AugAssign (.Subscript o i _) op e _=>match sM i with
  | true=>ua op ((B S).E o) ((B S).E i) ((B S).E e)
  | false=>j9
 | .For tg e b [] _=>match H9 S tg,fY e with
  | some t,true=>cw (stI Γ (B S) S tg e) t (af (b.map (B S).S))
  | _,_=>j9
 | _=>j9
def step (Γ:Ct) (B:Sg->Bd) (S:Sg):Bd:=⟨BV Γ B S,nK (B S) (BV Γ B S),ER Γ B S⟩
def cX (Γ:Ct):Nat->Sg->Bd
 | 0,_=>⟨fun _=>no,fun _=>no,fun _=>j9⟩
 | n+1,S=>step Γ (cX Γ n) S
def code (Γ:Ct) (S:Sg) (b:List Stmt):SS:=af (b.map (cX Γ 40 S).S)
end M
namespace M
open PySem PySem.W PySem.Calls PyProof.Rows L2
section
variable {X:Cx} {pins:ar} {φ:Fr} {g:G} {L L':Live} {s:OH}
theorem jx {A:Pm} {E:OE->OH->Prop} {fz:Bool} {ts:List T} {its:List OE} {w:T} (hu:A.units+8<cLine) (I:Inv X pins φ g L s) (rr:bz g ts its) (ok:bE ts) (h:eE fz (eB ts) L=.ok w L') :
  O3 (model X.prog X.w) A (Builtin.«list.sort» ⟨[.ref s.heap.objs.size],[]⟩) (fun fin s'=>fin=.done (.ret .none)/\EP X pins φ g w L' (.ref s.heap.objs.size) s') E { s with heap:=s.heap.push (seqObj "list" its.toArray 0) }:=by
 obtain⟨KC,hk,hh,hs⟩:=ok;have nD:∀b o,s.heap.get? b=some o->b≠s.heap.objs.size:=fun b o q=>O8 (O4 q)
 have Hq:∀b o,s.heap.get? b=some o->(s.heap.push (seqObj "list" its.toArray 0)).get? b=some o:=fun b o q=>OJ _ q
 have hlen:its.length=ts.length:=(OX rr).symm;have hk':=OD.mp hk
 have Mc:∀i,kd 8 (ts.getD i (.int 0))=true:=fun i=>by
  cases e:ts[i]? with
  | none=>simp only [Gd9,e,Uy];rfl
  | some x=>simp only [Gd9,e,SW];exact hk' x (PH e)
 have Ib:∀{h':Heap},(∀b o,s.heap.get? b=some o->h'.get? b=some o)->∀i (hi:i<ts.length) (hi':i<its.length),bH h' ts[i] its[i]:=fun {h'} kp i hi hi' =>
  (I.kept (t':=s.toks) kp).DK 8 (hk' _ (OV hi)) (oV rr i _ _ (Ge9 hi) (Ge9 hi'))
 refine j0 (κ:=tuples' true) (lt:=fun i j=>ltN 8 (ts.getD i (.int 0)) (ts.getD j (.int 0))) (BR Mc) (OM _ rfl) (by rw [P9];omega) (fun h2 h' kp Q' hQ=>?_) (fun h' kp i j C hi hj hC=>?_) fun p h' c hp hr kp e'=>?_
 ·have hf:∀i:_root_.Fin its.length,∃f:OE,(∃a o xs n,its[i.1]=.ref a/\h'.get? a=some o/\o.cls=.type "tuple"/\o.data=.seq xs n/\xs[0]?=some f)/\((ts.all m6=true->typeOf f=pure (.type "str"))/\(ts.all yz=true->typeOf f=pure (.type "int"))):=fun⟨i,hi⟩=>by
   have hit:i<ts.length:=by omega
   have k:=Ib (fun b o q=>kp b o (nD b o q) (Hq b o q)) i hit hi;have tup:∃b r,ts[i]=.tup (b::r):=by
    rcases hh with hh|hh
    ·have z:=OD.mp hh _ (OV hit)
     unfold m6 at z;split at z
     ·rename_i e;exact⟨_,_,e⟩
     ·cases z
    ·have z:=OD.mp hh _ (OV hit)
     unfold yz at z;split at z
     ·rename_i e;exact⟨_,_,e⟩
     ·cases z
   obtain⟨b,r,et⟩:=tup;have hS:ts.all m6=true->∃x,b=.str x:=fun z=>by
    have z:=OD.mp z _ (OV hit);rw [et] at z;cases b <;> first|exact⟨_,rfl⟩|cases z
   have hI:ts.all yz=true->∃x,b=.int x:=fun z=>by
    have z:=OD.mp z _ (OV hit);rw [et] at z;cases b <;> first|exact⟨_,rfl⟩|cases z
   rw [et] at k;generalize hv:its[i]=vv at k;cases k with
   | tup ho hc hd hl yh =>
    rename_i a1 o1 i1 n1;have pO:0<i1.size:=by simp at hl;omega
    have k0:=yh 0 b i1[0] rfl (OO pO);refine⟨i1[0],⟨a1,o1,i1,n1,rfl,ho,hc,hd,OO pO⟩,fun z=>?_,fun z=>?_⟩
    ·obtain⟨x,rfl⟩:=hS z
     generalize i1[0]=y at k0;cases k0;rfl
    ·obtain⟨x,rfl⟩:=hI z
     generalize i1[0]=y at k0;cases k0;rfl
  obtain⟨f,hf⟩:=Vz.mp hf;have kt:KatTups h' its (List.ofFn f):=kI (by simp) fun i h1 h2=>by
   rw [List.getElem_ofFn];exact(hf ⟨i,h1⟩).1
  rcases hh with hh|hh
  ·refine kat_kind (s:={ s with heap:=h' }) (T:=.type "str") (by simpa using kt) (by simp at h2 ⊢;omega) (fun v hv=>?_) (by decide) ?_
   ·obtain⟨i,rfl⟩:=(List.mem_ofFn (f:=f) (a:=v)).mp hv
    exact Looks.of_pure ((hf i).2.1 hh)
   ·exact hQ
  ·refine kat_kind (s:={ s with heap:=h' }) (T:=.type "int") (by simpa using kt) (by simp at h2 ⊢;omega) (fun v hv=>?_) (by decide) ?_
   ·obtain⟨i,rfl⟩:=(List.mem_ofFn (f:=f) (a:=v)).mp hv
    exact Looks.of_pure ((hf i).2.2 hh)
   ·exact hQ
 ·have i1:i<ts.length:=by omega
  have j1:j<ts.length:=by omega
  have t1:ts.getD i (.int 0)=ts[i]:=by simp [i1]
  have t2:ts.getD j (.int 0)=ts[j]:=by simp [j1]
  have g1:its.getD i P7=its[i]:=by rw [Gd9,Ge9 hi];rfl
  have g2:its.getD j P7=its[j]:=by rw [Gd9,Ge9 hj];rfl
  rw [g1,g2];have hC:C (ltN 8 (ts.getD i (.int 0)) (ts.getD j (.int 0))) _:=hC
  rw [t1,t2] at hC;refine EM hu (hk' _ (OV i1)) (hk' _ (OV j1)) ?_ (OD.mp (OD.mp hs _ (OV i1)) _ (OV j1)) (Ib (fun b o q=>kp b o (nD b o q) (Hq b o q)) i i1 hi) (Ib (fun b o q=>kp b o (nD b o q) (Hq b o q)) j j1 hj) hC;rcases hh with hh|hh
  ·exact .inl ⟨OD.mp hh _ (OV i1),OD.mp hh _ (OV j1)⟩
  ·exact .inr ⟨OD.mp hh _ (OV i1),OD.mp hh _ (OV j1)⟩
 ·have hpl:p.toList.Perm (Pa its.length):=hp.2
  have e1:(Pa its.length).map (fun i=>ts.getD i (.int 0))=ts:=by
   rw [hlen];apply Qe (by simp);intro i a1 a2;simp [a2]
  have Me:eB ts=p.toList.map (fun i=>ts.getD i (.int 0)):=by
   refine ju hk ?_ ?_
   ·have z:=hpl.map (fun i=>ts.getD i (.int 0))
    rw [e1] at z;exact z
   ·unfold f9
    rw [SK,Ro];intro i j hi hj gu;have hi':i<p.size:=by simpa using hi
    have hj':j<p.size:=by simpa using hj
    have z:=hr i j gu (by rw [<- hp.1];exact hj');have g1:p.getD i 0=p.toList[i]:=by simp [PJ,hi']
    have g2:p.getD j 0=p.toList[j]:=by simp [PJ,hj']
    rw [g1,g2] at z;exact z
  rw [Me] at h;exact⟨rfl,yA (s:=s) (t':=s.toks) (n:=c) I (rK rr p.toList fun i hi=>by have:=PF.mp (hpl.mem_iff.mp hi);omega) h (fun b o q=>kp b o (nD b o q) (Hq b o q)) (OR _) e'⟩
theorem Inv.ES {h':Heap} {tk:Nat} {as:List Pf} (I:Inv X pins φ g L s) (kp:∀b o,s.heap.get? b=some o->h'.get? b=some o) (ha:∀a∈as,s.heap.objs.size<=a) :
  ∃g1,Le g g1/\Inv X pins φ g1 L { s with heap:=h',toks:=tk }/\∀a∈as,∀o,h'.get? a=some o->g1.H a=some (true,o):=by
 classical
 let g1:G:={ g with H:=fun b=>if b∈as then (h'.get? b).map fun o=>(true,o) else g.H b }
 have old:∀b,b<s.heap.objs.size->g1.H b=g.H b:=fun b hb=>if_neg fun z=>Qj _ (O5 hb (ha b z))
 have lt:∀b x,g.H b=some x->b<s.heap.objs.size:=fun b x q=>O4 (I.hok b x.1 x.2 q)
 have l:Le g g1:=⟨fun b o q=>(old b (lt b _ q)).trans q,fun _ _ q=>q,rfl,rfl,rfl⟩;refine⟨g1,l,I.un l ⟨fun b o q _ _=>kp b o q,fun b o q n _=>(old b (O4 q)).trans n,l.f⟩ (fun b c o q=>?_) (I.rel.le l rfl fun b o q=>old b (lt b _ q)),fun a hm o q=>?_⟩
 ·by_cases hb:b∈as
  ·have q:(if b∈as then (h'.get? b).map fun o=>(true,o) else g.H b)=some (c,o):=q
   rw [if_pos hb] at q;obtain⟨z,z1,z2⟩:=OW.mp q;cases z2;exact z1
  ·have q:(if b∈as then (h'.get? b).map fun o=>(true,o) else g.H b)=some (c,o):=q
   rw [if_neg hb] at q;exact kp b o (I.hok b c o q)
 ·show(if a∈as then (h'.get? a).map fun o=>(true,o) else g.H a)=_
  rw [if_pos hm,q];rfl
theorem Aa {a:Pf} {o:Obj} {es:Array DictEntry} {ep:Nat} {ks:List (T × T)} (D:bj X g s ks a o es ep) (h:(ks.map (·.1)).all nh=true):∃kvs,s.heap.DictAt (gY X.prog X.w) a kvs ep/\kvs.length=ks.length/\∀(i:Nat) k x,kvs[i]?=some (k,x)->∃p,ks[i]?=some p/\p.1=k/\(∃u,RT g none k u)/\RT g none p.2 x:=by
 have sc:∀(i:Nat) p e,ks[i]?=some p->es[i]?=some e->yg p.1 e.key=true:=fun i p e e1 e2 =>
  lW (OD.mp h _ (O9 (PH e1))) (D.h1 i p e e1 e2)
 have go:∀(l:List DictEntry) (ks:List (T × T)),ks.length=l.length->(∀(i:Nat) p e,ks[i]?=some p->l[i]?=some e->yg p.1 e.key=true)->∃kvs,Pairs (gY X.prog X.w) l kvs/\kvs.length=ks.length/\kvs.map (·.1)=ks.map (·.1)/\kvs.map (·.2)=l.map (·.val):=fun l=>by
  induction l with
  | nil=>intro ks hl _;cases ks with
   | nil=>exact⟨[],.nil,rfl,rfl,rfl⟩
   | cons _ _=>cases hl
  | cons e l ih=>intro ks hl h;cases ks with
   | nil=>cases hl
   | cons p ks =>
    obtain⟨kvs,k1,k2,k3,k4⟩:=ih ks (by simpa using hl) fun i p e e1 e2=>h (i+1) p e (by simpa using e1) (by simpa using e2)
    exact⟨(p.1,e.val)::kvs,.cons (h 0 p e rfl rfl) rfl k1,by simp [k2],by simp [k3],by simp [k4]⟩
 obtain⟨kvs,k1,k2,k3,k4⟩:=go es.toList ks (by simpa using D.hl) fun i p e e1 e2=>sc i p e e1 (by simpa using e2)
 refine⟨kvs,⟨o,es,D.ho,D.hx,D.hd,fun e he=>?_,k1,by rw [k3];exact D.hn⟩,k2,fun i k x q=>?_⟩
 ·obtain⟨i,hi,rfl⟩:=Rp he
  have e1:=Ge9 (l:=ks) (i:=i) (by rw [D.hl];exact hi);exact⟨_,sc i _ _ e1 (OO hi),D.hh i _ _ e1 (OO hi)⟩
 ·have e1:(ks.map (·.1))[i]?=some k:=by rw [<- k3,Pb,q];rfl
  have e2:(es.toList.map (·.val))[i]?=some x:=by rw [<- k4,Pb,q];rfl
  rw [Pb] at e1 e2;obtain⟨p,p1,p2⟩:=OW.mp e1;obtain⟨e,q1,q2⟩:=OW.mp e2;have q1:es[i]?=some e:=by simpa using q1
  subst p2 q2;exact⟨p,p1,rfl,⟨_,D.h1 i p e p1 q1⟩,D.h2 i p e p1 q1⟩
theorem nL {ks:List (T × T)} (h:(av ks).all m6=true\/(av ks).all yz=true):(ks.map (·.1)).all nh=true:=by
 rw [OD];intro k hk;obtain⟨p,hp,rfl⟩:=OT.mp hk;have m:T.tup [p.1,p.2]∈av ks:=OT.mpr ⟨p,hp,rfl⟩
 rcases h with h|h
 ·have z:=OD.mp h _ m
  generalize p.1=q at z ⊢;cases q <;> first|rfl|cases z
 ·have z:=OD.mp h _ m
  generalize p.1=q at z ⊢;cases q <;> first|rfl|cases z
theorem pR {fz:Bool} {ks:List (T × T)} {w:T} {a r:Pf} {o:Obj} {es:Array DictEntry} {ep:Nat} (hu:X.A.units+20<cLine) (I:Inv X pins φ g L s) (D:bj X g s ks a o es ep) (hr:s.heap.get? r=some { cls:=.type "dict_items",data:=.fields #[.ref a] }) (ok:bE (av ks)) (h:eE fz (eB (av ks)) L=.ok w L') :
  O3 (model X.prog X.w) X.A (call (.builtin "sorted") [.ref r]) (EP X pins φ g w L') F0 s:=by
 obtain⟨kvs,d1,d2,d3⟩:=Aa D (nL ok.2.2.1);refine R5 kind_sorted plain_sorted entry_sorted (args_sorted1 _) ?_;unfold Builtin.«sorted»;refine OB (m:=checkCount "sorted" 1 1 _) (OC ?_);refine OB (PySem.W.kdx_collect (A:=X.A.in1) (knd:=gY X.prog X.w) (kvs:=kvs) (ep:=ep) (d:=a) I.ok.hd ⟨_,hr,rfl,rfl⟩ d1 (by rw [d2];exact D.hz) fun h' tk as kp yD hG=>?_);obtain⟨g1,l1,I1,n1⟩:=I.ES (tk:=tk) (as:=as) kp fun a ha=>UR (hG.above a ha)
 have rr:bz g1 (av ks) (as.map Q4):=by
  refine cC (by simp [av,yD,d2]) fun i x v e1 e2=>?_
  unfold av at e1;rw [Pb] at e1 e2;obtain⟨p,p1,rfl⟩:=OW.mp e1;obtain⟨b,b1,rfl⟩:=OW.mp e2;obtain⟨key,k,y,f1,f2,f3⟩:=hG.pairs i b b1;obtain⟨p',q1,q2,⟨u,q3⟩,q4⟩:=d3 i k y f1;rw [p1] at q1;cases q1;subst q2;have rk:RT g none p.1 key:=BD f2 q3
  refine .tup (.inl (n1 b (PH b1) _ f3)) ⟨rfl,rfl⟩ rfl (by rw [P9];simp) rfl fun j z v e1 e2=>?_
  match j,e1,e2 with
  | 0,e1,e2=>cases e1;cases e2;exact rk.le l1
  | 1,e1,e2=>cases e1;cases e2;exact q4.le l1
  | j+2,e1,e2=>simp at e1
 refine OB (wpAny_newList ?_ (by rw [Lm9,yD,d2];exact D.hz));have d8:=fun E'=>jx (s:={ s with heap:=h',toks:=tk }) (E:=E') (A:=X.A.in1.in1) (by show X.A.units+1+1+8<cLine;omega) I1 rr ok h
 refine OB (wpAny_holding (wpAny_call_entry slot_list_sort ⟨_,OM _ rfl,rfl⟩ entry_list_sort ?body (args_list_sort _)))
 case body =>
  refine wpAny_mono (d8 _) (fun fin s' z=>?_) fun _ _ z=>z
  obtain⟨rfl,z⟩:=z;exact⟨_,rfl,OC ⟨_,rfl,z.le l1⟩⟩
theorem s9 {fz:Bool} (hu:X.A.units+20<cLine):dN X (.builtin "sorted") (dO fz):=fun {pins φ g L s _ w L' _} I r h=>by
 unfold dO at h;split at h
 ·obtain⟨u,rfl,ru⟩:=cY r
  obtain⟨q,v⟩:=I.view ru;split at h
  ·rename_i ts ev
   rw [ev] at v;obtain⟨ok,h⟩:=ao h;obtain⟨a,its,n,rfl,e,rr,hz⟩:=I.lst v;obtain⟨vs⟩:=its;have hlen:=OX rr
   have KC:=ok.1;refine R5 kind_sorted plain_sorted entry_sorted (args_sorted1 _) ?_;unfold Builtin.«sorted»;refine OB (m:=checkCount "sorted" 1 1 _) (OC ?_);refine OB (collect_list (aa e) ?_ (by rw [P9];simp at hlen ⊢;omega));refine OB (wpAny_newList ?_ (by rw [P9];simp at hlen ⊢;omega));have keep:∀b o,s.heap.get? b=some o->((s.heap.push (seqObj "list" #[] 0)).update s.heap.objs.size (Qx (·++vs.toArray))).get? b=some o:=fun b o q=>by
    have bT:b<s.heap.objs.size:=O4 q;rw [Tn _ _ _ _ (O8 bT),RS _ _ _ (O8 bT)];exact q
   have I1:=I.kept (t':=s.toks) keep;have d8:=fun E'=>jx (s:={ s with heap:=(s.heap.push (seqObj "list" #[] 0)).update s.heap.objs.size (Qx (·++vs.toArray)) }) (E:=E') (A:=X.A.in1.in1) (by show X.A.units+1+1+8<cLine;omega) I1 rr ok h
   refine OB (wpAny_holding (wpAny_call_entry slot_list_sort ⟨_,OM _ rfl,rfl⟩ entry_list_sort ?body (args_list_sort _)))
   case body =>
    refine wpAny_mono (d8 _) (fun fin s' z=>?_) fun _ _ z=>z
    obtain⟨rfl,z⟩:=z;exact⟨_,rfl,OC ⟨_,rfl,z⟩⟩
  ·cases h
 ·cases h
end
end M
namespace L2
open PySem PySem.Spec PyProof.Rows
section
variable {prog:Pp} {w:Qn} {A:Pm} {E:OE->OH->Prop} {s:OH}
end
section
variable {prog:Pp} {w:Qn} {A:Pm} {E:OE->OH->Prop} {s:OH}
end
end L2
namespace M
open PySem PySem.Spec PyProof.Rows L2
section
variable {X:Cx} {pins:ar} {φ:Fr} {g g0:G} {L L':Live} {s:OH} {xs ys:List T} {N7 N8:List OE} {a z TI TO i1 i2 l1 l2:Pf} {N9 Oa:Obj} {A:Pm} {R:Result->OH->Prop} {b:Bool}
end
end M
namespace br
open PySem
noncomputable def Ri (xs:Array Nat):Prop:=∀i j,i<j->j<xs.size->xs.getD i 0<xs.getD j 0
theorem getD_in (xs:Array Nat) {i:Nat} (h:i<xs.size) (a b:Nat):xs.getD i a=xs.getD i b:=by simp [PJ,h]
theorem mx (xs:Array Nat) (hr:Ri xs) (j:Nat):∀(fuel lo hi:Nat),lo<=hi->hi<=xs.size->hi - lo<=fuel->(∀i,i<lo->xs.getD i 0<j)->(∀i,hi<=i->i<xs.size->j<=xs.getD i 0) ->
  (SM xs j fuel lo hi<=xs.size/\(∀i,i<SM xs j fuel lo hi->xs.getD i 0<j)/\∀i,SM xs j fuel lo hi<=i->i<xs.size->j<=xs.getD i 0)
 | 0,lo,hi,h1,h2,h3,h4,h5=>by
  obtain rfl:lo=hi:=by omega
  exact⟨h2,h4,h5⟩
 | fuel+1,lo,hi,h1,h2,h3,h4,h5=>by
  unfold SM;by_cases hl:lo<hi
  ·rw [if_pos hl]
   have hm:(lo+hi) / 2<xs.size:=by omega
   have e:xs.getD ((lo+hi) / 2) j=xs.getD ((lo+hi) / 2) 0:=getD_in xs hm _ _;dsimp only;rw [e];by_cases hc:xs.getD ((lo+hi) / 2) 0<j
   ·rw [if_pos hc]
    refine mx xs hr j fuel ((lo+hi) / 2+1) hi (by omega) h2 (by omega) (fun i hi'=>?_) h5;by_cases ei:i=(lo+hi) / 2
    ·rw [ei];exact hc
    ·exact Rw (hr i _ (by omega) hm) hc
   ·rw [if_neg hc]
    refine mx xs hr j fuel lo ((lo+hi) / 2) (by omega) (by omega) (by omega) h4 fun i sP yh=>?_
    by_cases ei:i=(lo+hi) / 2
    ·rw [ei];omega
    ·have:=hr _ i (show(lo+hi) / 2<i by omega) yh
     omega
  ·rw [if_neg hl]
   obtain rfl:lo=hi:=by omega
   exact⟨h2,h4,h5⟩
theorem eS (xs:Array Nat) (hr:Ri xs) (j:Nat):PQ xs j<=xs.size/\(∀i,i<PQ xs j->xs.getD i 0<j)/\∀i,PQ xs j<=i->i<xs.size->j<=xs.getD i 0 :=
 mx xs hr j xs.size 0 xs.size (Pg _) (OR _) (by omega) (fun i h=>absurd h (by omega)) fun i h1 h2=>absurd h1 (by omega)
structure Tb (t:Px):Prop where
 ri:Ri t.place
 nd:t.dummies = #[]
theorem eC {t:Px} (T:Tb t) {i:Nat} (hi:i<t.place.size):t.slot (t.place.getD i 0)=.live i:=by
 have b:=eS t.place T.ri (t.place.getD i 0);have e:PQ t.place (t.place.getD i 0)=i:=by
  rcases Uc (PQ t.place (t.place.getD i 0)) i with h|h|h
  ·have z:=b.2.2 _ (OR _) (by omega)
   have y:=T.ri _ i h hi;omega
  ·exact h
  ·have z:=b.2.1 i h
   omega
 unfold SetTable.slot;rw [e];have e2:t.place[i]?=some (t.place.getD i 0):=by simp [PJ,hi]
 dsimp only;rw [e2];simp
theorem gc {t:Px} (T:Tb t) (j:Nat):(∃i,i<t.place.size/\t.place.getD i 0=j/\t.slot j=.live i)\/((∀i,i<t.place.size->t.place.getD i 0≠j)/\t.slot j=.empty):=by
 by_cases h:∃i,i<t.place.size/\t.place.getD i 0=j
 ·obtain⟨i,h1,h2⟩:=h
  exact .inl ⟨i,h1,h2,by rw [<- h2];exact eC T h1⟩
 ·refine .inr ⟨fun i h1 h2=>h ⟨i,h1,h2⟩,?_⟩
  have hn:∀i,i<t.place.size->t.place.getD i 0≠j:=fun i h1 h2=>h ⟨i,h1,h2⟩
  unfold SetTable.slot;dsimp only;have e1:(t.place[PQ t.place j]? == some j)=false:=by
   cases e:t.place[PQ t.place j]? with
   | none=>rfl
   | some y =>
    obtain⟨h1,h2⟩:=Tw.mp e;have z:=hn _ h1
    have e3:t.place.getD (PQ t.place j) 0=y:=by simp [PJ,h1,h2]
    rw [e3] at z;simpa using z
  rw [e1];have e2:U0 t.dummies j=false:=by rw [T.nd];simp [U0]
  rw [e2];rfl
end br
namespace br
noncomputable def m8:Nat->Nat->Nat
 | 0,s=>s
 | r+1,s=>5 * m8 r s+1
noncomputable def T5:Nat->Nat
 | 0=>0
 | r+1=>5 * T5 r+1
theorem jy:∀r s,m8 r s=5 ^ r * s+T5 r
 | 0,s=>by simp [m8,T5]
 | r+1,s=>by
  rw [m8,jy r s,T5,RO,Nat.mul_add,<- Nat.mul_assoc,Vx 5 (5 ^ r),QW]
theorem pU:∀r,4 * T5 r+1=5 ^ r
 | 0=>rfl
 | r+1=>by
  have:=pU r;rw [T5,RO,<- this];omega
theorem mz:∀a b s,m8 (a+b) s=m8 a (m8 b s)
 | 0,b,s=>by simp [m8]
 | a+1,b,s=>by
  rw [show a+1+b=(a+b)+1 by omega,m8,m8,mz a b s]
theorem BW (a b:Nat):T5 (a+b)=5 ^ a * T5 b+T5 a:=by
 have h:=mz a b 0;rw [jy,jy a,jy b] at h;simpa using h
theorem u9:∀k,∃o,T5 (2 ^ k)=2 ^ k * (2 * o+1)
 | 0=>⟨0,rfl⟩
 | k+1=>by
  obtain⟨o,h⟩:=u9 k;have e:2 ^ (k+1)=2 ^ k+2 ^ k:=by rw [RO];omega
  rw [e,BW,<- pU];refine⟨2 * T5 (2 ^ k) * o+T5 (2 ^ k)+o,?_⟩;generalize T5 (2 ^ k)=T at *
  generalize 2 ^ k=M at *
  have h3:(4 * T+1) * T+T=(2 * (2 * T+1)) * T:=by grind
  rw [h3];have h4:(2 * (2 * T+1)) * T=(2 * (2 * T+1)) * (M * (2 * o+1)):=by rw [<- h]
  rw [h4];grind
theorem cover:∀(k s j:Nat),j<2 ^ k->∃r,r<2 ^ k/\m8 r s % 2 ^ k=j
 | 0,s,j,h=>⟨0,by simp,by simp at h;subst h;simp [Nat.mod_one]⟩
 | k+1,s,j,h=>by
  have e:2 ^ (k+1)=2 * 2 ^ k:=by rw [RO];omega
  have hM:0<2 ^ k:=Nat.two_pow_pos k;obtain⟨r,hr,hj⟩:=cover k s (j % 2 ^ k) (PZ _ hM);obtain⟨o,ho⟩:=u9 k;have hB:m8 (2 ^ k+r) s=m8 r s+2 ^ k * ((2 * o+1) * (4 * m8 r s+1)):=by
   rw [mz,jy (2 ^ k),<- pU,ho];generalize m8 r s=A;generalize 2 ^ k=M;grind
  rw [e] at h ⊢;obtain⟨A,hA⟩:∃A,m8 r s=A:=⟨_,rfl⟩;rw [hA] at hB hj;generalize 2 ^ k=M at *
  have a1:=Nat.div_add_mod A M;have j1:=Nat.div_add_mod j M
  rw [hj] at a1;generalize j % M=c at *
  have hc:c<M:=by
   rw [<- hj];exact PZ _ hM
  have hp:j / M=0\/j / M=1:=by
   have:j / M<2:=Nat.div_lt_of_lt_mul (by rw [Vx];exact h)
   revert this
   generalize j / M=p;intro this;omega
  have key:∀q x,x=2 * M * q+j->x % (2 * M)=j:=fun q x e=>by
   rw [e,Nat.mul_add_mod];exact SY h
  obtain⟨q,hq⟩:∃q,A / M=2 * q\/A / M=2 * q+1:=⟨A / M / 2,by generalize A / M=z;omega⟩;generalize A / M=a at *
  generalize j / M=p at *
  obtain⟨u,hu⟩:∃u,(2 * o+1) * (4 * A+1)=2 * u+1:=⟨4 * A * o+o+2 * A,by grind⟩;rw [hu] at hB;rcases hq with rfl|rfl <;> rcases hp with rfl|rfl
  ·exact⟨r,by omega,key q _ (by grind)⟩
  ·exact⟨M+r,by omega,key (q+u) _ (by grind)⟩
  ·exact⟨M+r,by omega,key (q+u+1) _ (by grind)⟩
  ·exact⟨r,by omega,key q _ (by grind)⟩
end br
namespace br
open PySem
noncomputable def ba (t:Px):Nat->QY->QY
 | 0,p=>p
 | n+1,p=>ba t n (t.advance p)
theorem eT (t:Px):∀a b p,ba t (a+b) p=ba t b (ba t a p)
 | 0,b,p=>by simp [ba]
 | a+1,b,p=>by rw [show a+1+b=(a+b)+1 by omega,ba,ba,eT t a b]
noncomputable def start (mask i pb:Nat) (d:Option Nat):QY:={ j:=i,more:=PC mask i - i,i:=i,perturb:=pb,dummy:=d }
theorem g9 (t:Px):∀(more j i pb:Nat) (d:Option Nat),ba t (more+1) { j:=j,more:=more,i:=i,perturb:=pb,dummy:=d }=start t.mask (Qb t.mask i pb).1 (Qb t.mask i pb).2 d
 | 0,j,i,pb,d=>by
  simp only [ba,RH];rfl
 | more+1,j,i,pb,d=>by
  rw [ba];have e:t.advance { j:=j,more:=more+1,i:=i,perturb:=pb,dummy:=d }={ j:=j+1,more:=more,i:=i,perturb:=pb,dummy:=d }:=by
   simp [RH]
  rw [e];exact g9 t more (j+1) i pb d
noncomputable def lp (mask:Nat):Nat->Nat × Nat->Nat × Nat
 | 0,x=>x
 | q+1,x=>Qb mask (lp mask q x).1 (lp mask q x).2
theorem starts (t:Px) (d:Option Nat) (i pb:Nat):∀q,∃n,n<=10 * q/\ba t n (start t.mask i pb d)=start t.mask (lp t.mask q (i,pb)).1 (lp t.mask q (i,pb)).2 d
 | 0=>⟨0,OR _,rfl⟩
 | q+1=>by
  obtain⟨n,h1,h2⟩:=starts t d i pb q;have hr:PC t.mask (lp t.mask q (i,pb)).1 - (lp t.mask q (i,pb)).1<=9:=by
   unfold PC;split <;> omega
  refine⟨n+(PC t.mask (lp t.mask q (i,pb)).1 - (lp t.mask q (i,pb)).1+1),by omega,?_⟩;rw [eT,h2,start,g9];rfl
theorem Ab (mask:Nat) (x:Nat × Nat):∀q,(lp mask q x).2=x.2 / 32 ^ q
 | 0=>by simp [lp]
 | q+1=>by
  rw [lp,Qb,Ab mask x q,RO,Nat.div_div_eq_div_mul]
theorem yE {mask:Nat} {x:Nat × Nat} (h:x.2<2 ^ 64) {q:Nat} (hq:13<=q):(lp mask q x).2=0:=by
 rw [Ab];apply Nat.div_eq_of_lt
 calc x.2<2 ^ 64:=h
  _<=32 ^ 13:=by decide
  _<=32 ^ q:=Vb (by decide) hq
theorem pV {mask:Nat} {x:Nat × Nat} (h:x.2<2 ^ 64):∀r,(lp mask (13+r) x).1 % (mask+1)=m8 r (lp mask 13 x).1 % (mask+1)
 | 0=>rfl
 | r+1=>by
  have e:lp mask (13+(r+1)) x=Qb mask (lp mask (13+r) x).1 (lp mask (13+r) x).2:=rfl;rw [e,Qb,yE h (by omega)];show((lp mask (13+r) x).1 * 5+1+0 / 32) % (mask+1) % (mask+1)=_
  rw [Nat.mod_mod,m8];simp only [Nat.zero_div,UW];rw [Nat.add_mod,Nat.mul_mod,pV h r,<- Nat.mul_mod,<- Nat.add_mod,Vx]
theorem BY (t:Px) {k:Nat} (hk:t.mask+1=2 ^ k) (h:Int) {j:Nat} (hj:j<=t.mask):∃n,n<=10 * (t.mask+14)/\(ba t n (t.probeStart h)).j=j:=by
 have e:t.probeStart h=start t.mask (PL h % (t.mask+1)) (PL h) none:=rfl;have hb:PL h<2 ^ 64:=by
  unfold PL;have h1:=Sl h (show(0:Int)<2 ^ 64 by decide)
  have h2:=To h (show(2 ^ 64:Int)≠0 by decide);omega
 let x:Nat × Nat:=(PL h % (t.mask+1),PL h)
 obtain⟨r,hr,hx⟩:=cover k (lp t.mask 13 x).1 j (by omega);rw [<- hk] at hx hr;have h1:=pV (mask:=t.mask) (x:=x) hb r
 have h2:(lp t.mask (13+r) x).1<t.mask+1:=by
  rw [show 13+r=(12+r)+1 by omega,lp,Qb];exact PZ _ (U1 _)
 rw [SY h2,hx] at h1;obtain⟨n,h3,h4⟩:=starts t none x.1 x.2 (13+r);refine⟨n,by omega,?_⟩;rw [e];show(ba t n (start t.mask x.1 x.2 none)).j=j
 rw [h4];exact h1
theorem pW {t:Px} (T:Tb t) (hf:t.place.size<=t.mask):∃j,j<=t.mask/\t.slot j=.empty:=by
 refine Qr fun gq=>?_
 have all:∀j,j<=t.mask->∃i,i<t.place.size/\t.place.getD i 0=j:=fun j hj=>by
  rcases gc T j with⟨i,h1,h2,_⟩|⟨_,h2⟩
  ·exact⟨i,h1,h2⟩
  ·exact absurd ⟨j,hj,h2⟩ gq
 have up:∀j,j<=t.mask->∀i,i<t.place.size->t.place.getD i 0=j->j<=i:=by
  intro j;induction j with
  | zero=>intro _ i _ _;omega
  | succ j ih =>
   intro hj i hi e;obtain⟨i',hi',e'⟩:=all j (by omega);have:=ih (by omega) i' hi' e'
   rcases Uc i i' with q|q|q
   ·have:=T.ri i i' q hi';omega
   ·subst q;omega
   ·omega
 obtain⟨i,hi,e⟩:=all t.mask (OR _);have:=up _ (OR _) i hi e
 omega
theorem first (P:Nat->Prop) (n:Nat) (h:P n):∃m,m<=n/\P m/\∀i,i<m->¬ P i:=by
 induction n using Nat.strongRecOn with
 | ind n ih =>
  by_cases q:∃i,i<n/\P i
  ·obtain⟨i,h1,h2⟩:=q
   obtain⟨m,a,b,c⟩:=ih i h1 h2;exact⟨m,by omega,b,c⟩
  ·exact⟨n,OR _,h,fun i hi hp=>q ⟨i,hi,hp⟩⟩
theorem way {t:Px} (T:Tb t) {k:Nat} (hk:t.mask+1=2 ^ k) (hf:t.place.size<=t.mask) (h:Int) (hit:Nat->Prop) :
  ∃n,n<=10 * (t.mask+14)/\(t.slot (ba t n (t.probeStart h)).j=.empty\/∃i,i<t.place.size/\t.slot (ba t n (t.probeStart h)).j=.live i/\hit i) /\
   ∀m,m<n->∃i,i<t.place.size/\t.slot (ba t m (t.probeStart h)).j=.live i/\¬ hit i:=by
 obtain⟨j,hj,he⟩:=pW T hf;obtain⟨n,hn,e⟩:=BY t hk h hj;obtain⟨m,hm,hp,hb⟩:=first (fun n=>t.slot (ba t n (t.probeStart h)).j=.empty\/∃i,i<t.place.size/\t.slot (ba t n (t.probeStart h)).j=.live i/\hit i) n (.inl (by rw [e];exact he))
 refine⟨m,by omega,hp,fun i hi=>?_⟩;have gq:=hb i hi
 rcases gc T (ba t i (t.probeStart h)).j with⟨a,h1,h2,h3⟩|⟨_,h2⟩
 ·exact⟨a,h1,h3,fun z=>gq (.inr ⟨a,h1,h3,z⟩)⟩
 ·exact absurd (.inl h2) gq
theorem va (t:Px) (hashAt:Nat->Int) (h:Int):∀(n fuel:Nat) (p:QY),(∀m,m<n->∃i,t.slot (ba t m p).j=.live i/\(hashAt i == h)=false)->n<=fuel ->
  Rv t hashAt h fuel p=Rv t hashAt h (fuel - n) (ba t n p)
 | 0,fuel,p,_,_=>rfl
 | n+1,0,p,_,hf=>absurd hf (by omega)
 | n+1,fuel+1,p,hm,hf=>by
  obtain⟨i,h1,h2⟩:=hm 0 (by omega);have h1:t.slot p.j=.live i:=h1
  rw [Rv,h1];simp only [h2,OQ,if_false];rw [va t hashAt h n fuel (t.advance p) (fun m q=>hm (m+1) (by omega)) (by omega)];rw [show fuel+1 - (n+1)=fuel - n by omega];rfl
noncomputable def BZ (t:Px) (h:Int) (j:Nat):Prop:=∃n,n<10 * (t.mask+15)/\(ba t n (t.probeStart h)).j=j/\∀m,m<n->t.slot (ba t m (t.probeStart h)).j≠.empty
structure m9 (t:Px) (hs:Array Int):Prop where
 tb:Tb t
 sz:t.place.size=hs.size
 le:∀i,i<t.place.size->t.place.getD i 0<=t.mask
 fill:hs.size<=t.mask
 pw:∃k,t.mask+1=2 ^ k
 pX:∀i,i<hs.size->BZ t (hs.getD i 0) (t.place.getD i 0)
theorem eD {t t':Px} (h:t'.mask=t.mask):∀n p,ba t' n p=ba t n p
 | 0,p=>rfl
 | n+1,p=>by
  have e:t'.advance p=t.advance p:=by simp only [RH,h]
  rw [ba,ba,e,eD h n]
theorem eU {t t':Px} (hm:t'.mask=t.mask) (h:Int):t'.probeStart h=t.probeStart h:=by simp only [SetTable.probeStart,hm]
theorem bL {α:Type} (xs:Array α) {p:Nat} (hp:p<=xs.size) (x:α):(PB xs p x).size=xs.size+1:=by
 unfold PB;simp;omega
theorem eV {α:Type} (xs:Array α) {p:Nat} (hp:p<=xs.size) (x:α) (i:Nat):(PB xs p x)[i]?=if i<p then xs[i]? else if i=p then some x else xs[i - 1]?:=by
 unfold PB;rw [Array.getElem?_append];have e:((xs.extract 0 p).push x).size=p+1:=by simp;omega
 rw [e];by_cases h1:i<p
 ·rw [if_pos (QK h1),if_pos h1,Tj]
  rw [if_neg (by simp;omega),UJ];simp;omega
 ·rw [if_neg h1]
  by_cases h2:i=p
  ·rw [if_pos (Nat.lt_succ_of_le (TM h2)),if_pos h2,Tj]
   rw [if_pos (by simp;omega)]
  ·rw [if_neg (by omega),if_neg h2,UJ]
   have e2:p+(i - (p+1))=i - 1:=by omega
   rw [e2];by_cases h3:i - 1<xs.size
   ·rw [if_pos (by omega)]
   ·rw [if_neg (by omega)]
    simp;omega
theorem fR {α:Type} (xs:Array α) {p:Nat} (hp:p<=xs.size) (x d:α) (i:Nat):(PB xs p x).getD i d=if i<p then xs.getD i d else if i=p then x else xs.getD (i - 1) d:=by
 rw [Pc,eV xs hp x i,Pc,Pc];split
 ·rfl
 ·split <;> rfl
theorem lZ {t:Px} {hs:Array Int} (I:m9 t hs) {h:Int} {n:Nat} (hn:n<10 * (t.mask+15)) (he:t.slot (ba t n (t.probeStart h)).j=.empty) (hj:(ba t n (t.probeStart h)).j<=t.mask)
  (hw:∀m,m<n->t.slot (ba t m (t.probeStart h)).j≠.empty) (Ac:hs.size+1<=t.mask) :
  m9 (t.put (ba t n (t.probeStart h)).j).1 (PB hs (t.put (ba t n (t.probeStart h)).j).2 h)/\(t.put (ba t n (t.probeStart h)).j).2<=hs.size:=by
 generalize Mf:(ba t n (t.probeStart h)).j=j at *
 have ET:∀i,i<t.place.size->t.place.getD i 0≠j:=fun i hi e=>by
  have z:=eC I.tb hi;rw [e,he] at z;cases z
 have hb:=eS t.place I.tb.ri j;have ro:(t.put j).2=PQ t.place j:=rfl
 have hm:(t.put j).1.mask=t.mask:=rfl;have hpl:(t.put j).1.place=PB t.place (PQ t.place j) j:=rfl
 have hd:(t.put j).1.dummies = #[]:=by
  show(if U0 t.dummies j then _ else t.dummies) = #[];rw [I.tb.nd];simp [U0]
 have gp:=fR t.place hb.1 j 0;have sp:=bL t.place hb.1 j
 generalize PQ t.place j=bb at hb ro hpl gp sp;have hsz:=I.sz
 have EU:bb<=hs.size:=by omega
 have ri:Ri (t.put j).1.place:=fun a b hab Mg=>by
  rw [hpl,sp] at Mg;rw [hpl,gp,gp];have h1:=hb.2.1
  have h2:=hb.2.2;by_cases b1:b<bb
  ·rw [if_pos (Rw hab b1),if_pos b1];exact I.tb.ri a b hab (O5 b1 hb.1)
  ·rw [if_neg b1]
   by_cases b2:b=bb
   ·rw [if_pos b2,if_pos (b2 ▸ hab)];exact h1 a (b2 ▸ hab)
   ·rw [if_neg b2]
    have b3:bb<=b - 1:=by omega
    have b4:b - 1<t.place.size:=by omega
    by_cases a1:a<bb
    ·rw [if_pos a1];exact I.tb.ri a (b - 1) (O5 a1 b3) b4
    ·rw [if_neg a1]
     by_cases a2:a=bb
     ·rw [if_pos a2]
      have z:=h2 (b - 1) b3 b4;have y:=ET (b - 1) b4
      omega
     ·rw [if_neg a2];exact I.tb.ri (a - 1) (b - 1) (by omega) b4
 have tb:Tb (t.put j).1:=⟨ri,hd⟩;have mono:∀c,t.slot c≠.empty->(t.put j).1.slot c≠.empty:=fun c hc z=>by
  rcases gc I.tb c with⟨i,h1,h2,_⟩|⟨_,h2⟩
  ·have key:∃i',i'<(t.put j).1.place.size/\(t.put j).1.place.getD i' 0=c:=by
    rw [hpl,sp];by_cases q:i<bb
    ·exact⟨i,QK h1,by rw [gp,if_pos q];exact h2⟩
    ·exact⟨i+1,Nat.succ_lt_succ h1,by rw [gp,if_neg (by omega),if_neg (by omega)];exact h2⟩
   obtain⟨i',k1,k2⟩:=key;have y:=eC tb k1
   rw [k2,z] at y;cases y
  ·exact hc h2
 refine⟨⟨tb,?_,?_,?_,?_,?_⟩,?_⟩
 ·rw [ro,hpl,sp,bL hs EU,hsz]
 ·intro i hi
  rw [hpl,sp] at hi;rw [hpl,gp,hm];split
  ·exact I.le i (by omega)
  ·split
   ·exact hj
   ·exact I.le (i - 1) (by omega)
 ·rw [ro,bL hs EU,hm];exact Ac
 ·rw [hm];exact I.pw
 ·intro i hi
  rw [ro,bL hs EU] at hi;rw [ro,hpl,gp,fR hs EU];have lift:∀h' c,BZ t h' c->BZ (t.put j).1 h' c:=fun h' c ⟨n',k1,k2,k3⟩ =>
   ⟨n',by rw [hm];exact k1,by rw [eU hm,eD hm];exact k2,fun m q=>by rw [eU hm,eD hm];exact mono _ (k3 m q)⟩
  split
  ·exact lift _ _ (I.pX i (by omega))
  ·split
   ·exact lift _ _ ⟨n,hn,Mf,hw⟩
   ·exact lift _ _ (I.pX (i - 1) (by omega))
 ·rw [ro];exact EU
theorem EV {mask k:Nat} (hk:mask+1=2 ^ k) (h:Int) {j:Nat} (hj:j<=mask):∃q,q<=13+mask/\(lp mask q (PL h % (mask+1),PL h)).1=j:=by
 have hb:PL h<2 ^ 64:=by
  unfold PL;have h1:=Sl h (show(0:Int)<2 ^ 64 by decide)
  have h2:=To h (show(2 ^ 64:Int)≠0 by decide);omega
 let x:Nat × Nat:=(PL h % (mask+1),PL h)
 obtain⟨r,hr,hx⟩:=cover k (lp mask 13 x).1 j (by omega);rw [<- hk] at hx hr;have h1:=pV (mask:=mask) (x:=x) hb r
 have h2:(lp mask (13+r) x).1<mask+1:=by
  rw [show 13+r=(12+r)+1 by omega,lp,Qb];exact PZ _ (U1 _)
 rw [SY h2,hx] at h1;exact⟨13+r,by omega,h1⟩
theorem i0 (t:Px):∀(n more j i pb:Nat) (d:Option Nat),n<=more->ba t n { j:=j,more:=more,i:=i,perturb:=pb,dummy:=d }={ j:=j+n,more:=more - n,i:=i,perturb:=pb,dummy:=d }
 | 0,more,j,i,pb,d,_=>rfl
 | n+1,0,j,i,pb,d,h=>absurd h (by omega)
 | n+1,more+1,j,i,pb,d,h=>by
  rw [ba];have e:t.advance { j:=j,more:=more+1,i:=i,perturb:=pb,dummy:=d }={ j:=j+1,more:=more,i:=i,perturb:=pb,dummy:=d }:=by simp [RH]
  rw [e,i0 t n more (j+1) i pb d (by omega)];simp only [SetTable.Probe.mk.injEq,and_true];omega
noncomputable def Fr (owner:Array (Option Nat)) (c:Nat):Prop:=(owner.getD c (some 0)).isNone=true
theorem nM (mask:Nat) (x:Nat × Nat):∀q,lp mask (q+1) x=lp mask q (Qb mask x.1 x.2)
 | 0=>rfl
 | q+1=>by rw [lp,nM mask x q,lp]
theorem kO (t:Px) (owner:Array (Option Nat)):∀(fuel i pb:Nat),(∃q,q<fuel/\Fr owner (lp t.mask q (i,pb)).1) ->
  ∃j n,Sz t.mask owner fuel i pb=some j/\n+1<=10 * fuel/\(ba t n (start t.mask i pb none)).j=j/\Fr owner j/\∀m,m<n->¬ Fr owner (ba t m (start t.mask i pb none)).j
 | 0,i,pb,⟨q,hq,_⟩=>absurd hq (by omega)
 | fuel+1,i,pb,⟨q,hq,hf⟩=>by
  have hr:PC t.mask i - i<=9/\i<=PC t.mask i:=by
   unfold PC;split <;> omega
  unfold Sz;cases e:(Pa (PC t.mask i+1 - i)).find? fun k=>(owner.getD (i+k) (some 0)).isNone with
  | some k =>
   obtain⟨h1,hk,h3⟩:=List.find?_range_eq_some.mp e;have hk:=PF.mp hk
   have Mh:∀m,m<k->(owner.getD (i+m) (some 0)).isNone=false:=fun m hm=>by simpa using h3 m hm
   refine⟨i+k,k,rfl,by omega,?_,h1,fun m hm=>?_⟩
   ·rw [start,i0 t k _ _ _ _ _ (by omega)]
   ·rw [start,i0 t m _ _ _ _ _ (by omega)]
    show ¬ (owner.getD (i+m) (some 0)).isNone=true;rw [Mh m hm];simp
  | none =>
   have gq:∀k,k<PC t.mask i+1 - i->(owner.getD (i+k) (some 0)).isNone=false:=fun k hk=>by
    have:=Qg.mp e k (PF.mpr hk);exact Bool.eq_false_iff.mpr this
   obtain⟨q,rfl⟩:∃q',q=q'+1:=by
    cases q with
    | zero =>
     have z:=gq 0 (by omega);have hf:(owner.getD i (some 0)).isNone=true:=hf
     rw [UW,hf] at z;cases z
    | succ q=>exact⟨q,rfl⟩
   rw [nM] at hf;obtain⟨j,n,g1,g2,g3,g4,g5⟩:=kO t owner fuel (Qb t.mask i pb).1 (Qb t.mask i pb).2 ⟨q,by omega,hf⟩;refine⟨j,(PC t.mask i - i+1)+n,g1,by omega,?_,g4,fun m hm=>?_⟩
   ·rw [eT,start,g9];exact g3
   ·by_cases vb:m<=PC t.mask i - i
    ·rw [start,i0 t m _ _ _ _ _ vb]
     show ¬ (owner.getD (i+m) (some 0)).isNone=true;rw [gq m (by omega)];simp
    ·have em:m=(PC t.mask i - i+1)+(m - (PC t.mask i - i+1)):=by omega
     rw [em,eT,start,g9];exact g5 _ (by omega)
theorem kU:∀(n:Nat) (l:List Nat),l.Nodup->(∀x∈l,x<n)->l.length<=n
 | 0,l,_,h=>by
  cases l with
  | nil=>simp
  | cons a r=>exact absurd (h a (by simp)) (by omega)
 | n+1,l,hn,h=>by
  have h1:=kU n (l.erase n) (hn.erase n) fun x hx=>by
   have a:=h x (List.mem_of_mem_erase hx);have b:x≠n:=fun e=>by
    subst e;exact(hn.not_mem_erase) hx
   omega
  have h2:l.length<=(l.erase n).length+1:=by
   by_cases hm:n∈l
   ·rw [R8 hm];omega
   ·rw [List.erase_of_not_mem hm];omega
  omega
structure Own (t:Px) (owner:Array (Option Nat)) (hs:List Int) (pos:Nat->Nat):Prop where
 sz:owner.size=t.mask+1
 at_:∀c,c<=t.mask->∀i,owner.getD c none=some i↔(i<hs.length/\pos i=c)
 le:∀i,i<hs.length->pos i<=t.mask
 pX:∀i (hi:i<hs.length),∃n,n<10 * (t.mask+15)/\(ba t n (t.probeStart hs[i])).j=pos i/\∀m,m<n->¬ Fr owner (ba t m (t.probeStart hs[i])).j
theorem Own.jz {t:Px} {owner:Array (Option Nat)} {hs:List Int} {pos:Nat->Nat} (O:Own t owner hs pos) (c:Nat):Fr owner c↔(c<=t.mask/\∀i,i<hs.length->pos i≠c):=by
 unfold Fr;constructor
 ·intro h
  have hc:c<=t.mask:=by
   refine Qr fun hc=>?_
   have hs':=O.sz;have:owner.getD c (some 0)=some 0:=by simp [PJ,show ¬ c<owner.size by omega]
   rw [this] at h;cases h
  refine⟨hc,fun i hi e=>?_⟩;have z:=(O.at_ c hc i).mpr ⟨hi,e⟩
  have bT:c<owner.size:=by rw [O.sz];omega
  have e2:owner.getD c (some 0)=owner.getD c none:=by simp [PJ,bT]
  rw [e2,z] at h;cases h
 ·rintro⟨hc,h⟩
  have bT:c<owner.size:=by rw [O.sz];omega
  have e2:owner.getD c (some 0)=owner.getD c none:=by simp [PJ,bT]
  rw [e2];cases e:owner.getD c none with
  | none=>rfl
  | some i =>
   obtain⟨h1,h2⟩:=(O.at_ c hc i).mp e;exact absurd h2 (h i h1)
theorem Own.ta {t:Px} {owner:Array (Option Nat)} {hs:List Int} {pos:Nat->Nat} (O:Own t owner hs pos) (hf:hs.length<=t.mask):∃c,c<=t.mask/\Fr owner c:=by
 refine Qr fun gq=>?_
 have all:∀c,c<=t.mask->∃i,i<hs.length/\pos i=c:=fun c hc=>Qr fun hn=>gq ⟨c,hc,(O.jz c).mpr ⟨hc,fun i hi e=>hn ⟨i,hi,e⟩⟩⟩
 have Ic:∀c,∃i,c<=t.mask->i<hs.length/\pos i=c:=fun c=>by
  by_cases hc:c<=t.mask
  ·obtain⟨i,h⟩:=all c hc;exact⟨i,fun _=>h⟩
  ·exact⟨0,fun z=>absurd z hc⟩
 obtain⟨g,hg⟩:=Vz.mp Ic;have h1:=kU hs.length ((Pa (t.mask+1)).map g) (by
  unfold List.Nodup;rw [SK];refine Ud (R:=fun a b=>a<b) (fun {a b} ha hb bT e=>?_) UK;have ha':=(hg a (by have:=PF.mp ha;omega)).2
  have hb':=(hg b (by have:=PF.mp hb;omega)).2;rw [e] at ha';omega) fun x hx=>by
   obtain⟨c,hc,rfl⟩:=OT.mp hx;exact(hg c (by have:=PF.mp hc;omega)).1
 simp at h1;omega
noncomputable def xD (mask:Nat) (acc:Option (Array (Option Nat) × Nat)) (h:Int):Option (Array (Option Nat) × Nat):=do
 let (owner,k) <- acc
 let j <- Sz mask owner (QM mask) (PL h % (mask+1)) (PL h)
 pure (owner.setIfInBounds j (some k),k+1)
theorem nN (mask:Nat) (hashes:Array Int):SN mask hashes=(hashes.toList.foldl (xD mask) (some (Array.replicate (mask+1) none,0))).map (·.1):=by
 unfold SN;rw [<- Array.foldl_toList];rfl
theorem Own.step {t:Px} {k:Nat} (hk:t.mask+1=2 ^ k) {owner:Array (Option Nat)} {hs:List Int} {pos:Nat->Nat} (O:Own t owner hs pos) (hf:hs.length<=t.mask) (h:Int) :
  ∃jA pos',xD t.mask (some (owner,hs.length)) h=some (jA,hs.length+1)/\Own t jA (hs++[h]) pos':=by
 obtain⟨c,hc,nu⟩:=O.ta hf;obtain⟨q,hq,e⟩:=EV hk h hc;obtain⟨j,n,g1,g2,g3,g4,g5⟩:=kO t owner (QM t.mask) (PL h % (t.mask+1)) (PL h) ⟨q,by unfold QM;omega,by rw [e];exact nu⟩;have hj:=(O.jz j).mp g4
 have DS:∀i,i<hs.length+1->i≠hs.length->i<hs.length:=fun i a b=>by omega
 have bT:j<owner.size:=by rw [O.sz];omega
 have gs:∀c d,(owner.setIfInBounds j (some hs.length)).getD c d=if c=j then some hs.length else owner.getD c d:=fun c d=>by
  rw [Pc,Pc,Array.getElem?_setIfInBounds];by_cases ec:j=c
  ·subst ec;simp [bT]
  ·rw [if_neg ec,if_neg (Qz ec)]
 refine⟨owner.setIfInBounds j (some hs.length),fun i=>if i=hs.length then j else pos i,?_,?_⟩
 ·unfold xD
  simp only [Option.bind_eq_bind,Rb,g1];rfl
 ·have d6:∀c,Fr (owner.setIfInBounds j (some hs.length)) c->Fr owner c:=fun c hc=>by
   unfold Fr at hc ⊢;rw [gs] at hc;by_cases ec:c=j
   ·rw [if_pos ec] at hc;cases hc
   ·rw [if_neg ec] at hc;exact hc
  refine⟨by rw [Array.size_setIfInBounds];exact O.sz,fun c hc i=>?_,fun i hi=>?_,fun i hi=>?_⟩
  ·rw [gs,OL,PM]
   by_cases ec:c=j
   ·subst ec
    rw [if_pos rfl];constructor
    ·intro e;cases e;exact⟨QJ _,by rw [if_pos rfl]⟩
    ·rintro⟨h1,h2⟩
     by_cases ei:i=hs.length
     ·rw [ei]
     ·rw [if_neg ei] at h2
      exact absurd h2 (hj.2 i (DS i h1 ei))
   ·rw [if_neg ec,O.at_ c hc i]
    constructor
    ·rintro⟨h1,h2⟩;exact⟨QK h1,by rw [if_neg (O8 h1)];exact h2⟩
    ·rintro⟨h1,h2⟩
     by_cases ei:i=hs.length
     ·rw [if_pos ei] at h2;exact absurd h2.symm ec
     ·rw [if_neg ei] at h2;exact⟨DS i h1 ei,h2⟩
  ·rw [OL,PM] at hi
   by_cases ei:i=hs.length
   ·show(if i=hs.length then j else pos i)<=t.mask
    rw [if_pos ei];exact hj.1
   ·show(if i=hs.length then j else pos i)<=t.mask
    rw [if_neg ei];exact O.le i (DS i hi ei)
  ·rw [OL,PM] at hi
   by_cases ei:i=hs.length
   ·subst ei
    have e2:(hs++[h])[hs.length]=h:=by simp
    rw [e2];refine⟨n,by unfold QM at g2;omega,by rw [if_pos rfl];exact g3,fun m hm z=>g5 m hm (d6 _ z)⟩
   ·obtain⟨n',k1,k2,k3⟩:=O.pX i (DS i hi ei)
    have e2:(hs++[h])[i]=hs[i]'(DS i hi ei):=List.getElem_append_left (DS i hi ei);rw [e2];exact⟨n',k1,by rw [if_neg ei];exact k2,fun m hm z=>k3 m hm (d6 _ z)⟩
theorem nO {t:Px} {k:Nat} (hk:t.mask+1=2 ^ k):∀(l:List Int) (owner:Array (Option Nat)) (pre:List Int) (pos:Nat->Nat),Own t owner pre pos->pre.length+l.length<=t.mask+1 ->
  ∃jA pos',l.foldl (xD t.mask) (some (owner,pre.length))=some (jA,pre.length+l.length)/\Own t jA (pre++l) pos'
 | [],owner,pre,pos,O,_=>⟨owner,pos,by simp,by simpa using O⟩
 | h::l,owner,pre,pos,O,hf=>by
  simp only [OP] at hf;obtain⟨o1,p1,e1,O1⟩:=O.step hk (by omega) h;obtain⟨o2,p2,e2,O2⟩:=nO hk l o1 (pre++[h]) p1 O1 (by rw [OL,PM];omega);refine⟨o2,p2,?_,by simpa using O2⟩;rw [Se,e1];rw [OL,PM] at e2;rw [e2];simp only [OP];congr 2;omega
theorem B0 {t:Px} {k:Nat} (hk:t.mask+1=2 ^ k) (hs:Array Int) (hf:hs.size<=t.mask):∃owner pos,SN t.mask hs=some owner/\Own t owner hs.toList pos:=by
 have O0:Own t (Array.replicate (t.mask+1) none) [] (fun _=>0):=⟨by simp,fun c hc i=>by simp [PJ,hc],fun i hi=>by simp at hi,fun i hi=>by simp at hi⟩;obtain⟨o,p,e,O⟩:=nO hk hs.toList _ [] _ O0 (by simp;omega);refine⟨o,p,?_,by simpa using O⟩;rw [nN,show(0:Nat)=([]:List Int).length from rfl,e];rfl
theorem kW {mask i:Nat} (h:i<=mask):i<=PC mask i/\PC mask i<=mask:=by
 unfold PC;split <;> omega
theorem pY (t:Px) (p:QY) (h:p.j+p.more<=t.mask):(t.advance p).j+(t.advance p).more<=t.mask:=by
 unfold RH;split
 ·show p.j+1+(p.more - 1)<=t.mask
  omega
 ·have hl:(Qb t.mask p.i p.perturb).1<=t.mask:=by
   unfold Qb;exact Nat.le_of_lt_succ (PZ _ (U1 _))
  have hr:=kW hl;show(Qb t.mask p.i p.perturb).1+(PC t.mask (Qb t.mask p.i p.perturb).1 - (Qb t.mask p.i p.perturb).1)<=t.mask
  omega
theorem pZ (t:Px):∀(n:Nat) (p:QY),p.j+p.more<=t.mask->(ba t n p).j<=t.mask
 | 0,p,h=>by show p.j<=t.mask;omega
 | n+1,p,h=>pZ t n _ (pY t p h)
theorem nP (t:Px) (h:Int):(t.probeStart h).j+(t.probeStart h).more<=t.mask:=by
 have hl:PL h % (t.mask+1)<=t.mask:=Nat.le_of_lt_succ (PZ _ (U1 _));have hr:=kW hl
 show PL h % (t.mask+1)+(PC t.mask (PL h % (t.mask+1)) - PL h % (t.mask+1))<=t.mask;omega
theorem yF {mask k:Nat} (hk:mask+1=2 ^ k) (finger moves:Nat) (led plain:Bool) (hs:Array Int) (hf:hs.size<=mask) :
  ∃t order,SetTable.laid mask finger moves led plain hs=some (t,order)/\t.mask=mask/\t.led=led/\t.plain=plain/\order.toList.Perm (Pa hs.size)/\m9 t (order.map fun i=>hs.getD i 0):=by
 let t0:Px:={ mask:=mask,place:=#[],dummies:=#[],finger:=finger,led:=led,moves:=moves,plain:=plain }
 obtain⟨owner,pos,e,O⟩:=B0 (t:=t0) hk hs hf;have e:SN mask hs=some owner:=e
 let live:List (Nat × Nat):=(Pa (mask+1)).filterMap fun j=>(owner.getD j none).map (j,·)
 let t:Px:={ mask:=mask,place:=(live.map (·.1)).toArray,dummies:=#[],finger:=finger,led:=led,moves:=moves,plain:=plain }
 have hlen:hs.toList.length=hs.size:=by simp
 have mem:∀j i,(j,i)∈live↔(j<=mask/\i<hs.size/\pos i=j):=fun j i=>by
  have z:(j,i)∈live↔∃a,a∈Pa (mask+1)/\(owner.getD a none).map (a,·)=some (j,i):=QA;rw [z];constructor
  ·rintro⟨a,h1,h2⟩
   obtain⟨b,h3,h4⟩:=OW.mp h2;cases h4;have ha:j<=mask:=by have:=PF.mp h1;omega
   have:=(O.at_ j ha i).mp h3;exact⟨ha,by rw [<- hlen];exact this.1,this.2⟩
  ·rintro⟨h1,h2,h3⟩
   exact⟨j,PF.mpr (by omega),by rw [(O.at_ j h1 i).mpr ⟨by rw [hlen];exact h2,h3⟩];rfl⟩
 have rise:live.Pairwise fun a b=>a.1<b.1:=by
  refine List.Pairwise.filterMap (R:=fun a b=>a<b) _ (fun a a' Mi b hb b' hb'=>?_) UK;obtain⟨_,_,rfl⟩:=OW.mp hb;obtain⟨_,_,rfl⟩:=OW.mp hb';exact Mi
 have Mj:(live.map (·.2)).Nodup:=by
  unfold List.Nodup;rw [SK];refine Ud (fun {a b} ha hb bT e2=>?_) rise;have h1:=((mem a.1 a.2).mp ha).2.2
  have h2:=((mem b.1 b.2).mp hb).2.2;rw [e2] at h1;omega
 have perm:(live.map (·.2)).Perm (Pa hs.size):=by
  refine(Q8 Mj List.nodup_range).mpr fun i=>?_
  rw [PF];constructor
  ·intro hi
   obtain⟨⟨j,i'⟩,h1,rfl⟩:=OT.mp hi;exact((mem j i').mp h1).2.1
  ·intro hi
   exact OT.mpr ⟨(pos i,i),(mem _ _).mpr ⟨O.le i (by rw [hlen];exact hi),hi,rfl⟩,rfl⟩
 have ri:Ri t.place:=fun a b hab hb=>by
  show(live.map (·.1)).toArray.getD a 0<(live.map (·.1)).toArray.getD b 0;have hb':b<live.length:=by
   have:(live.map (·.1)).toArray.size=live.length:=by simp
   show b<live.length;rw [<- this];exact hb
  have z:=Ro.mp rise a b (by omega) hb' hab;simpa [PJ,show a<live.length by omega,hb'] using z
 have tb:Tb t:=⟨ri,rfl⟩;have Ie:t.place.size=live.length:=by show(live.map (·.1)).toArray.size=_;simp
 have B1:∀i (hi:i<live.length),t.place.getD i 0=(live[i]).1:=fun i hi=>by
  show(live.map (·.1)).toArray.getD i 0=_;simp [PJ,hi]
 have full:∀c,¬ Fr owner c->c<=mask->t.slot c≠.empty:=fun c hc hle z=>by
  have hex:∃i,i<hs.size/\pos i=c:=Qr fun gq=>hc ((O.jz c).mpr ⟨hle,fun i hi e2=>gq ⟨i,by rw [<- hlen];exact hi,e2⟩⟩)
  obtain⟨i,h1,h2⟩:=hex;obtain⟨a,ha,ea⟩:=QI.mp ((mem c i).mpr ⟨hle,h1,h2⟩);have y:=eC tb (i:=a) (by rw [Ie];exact ha)
  rw [B1 a ha,ea,z] at y;cases y
 have Ig:live.length=hs.size:=by
  have:=perm.length_eq;simpa using this
 have EW:∀h m,(ba t m (t.probeStart h)).j<=mask:=fun h m=>pZ t m _ (nP t h)
 refine⟨t,(live.map (·.2)).toArray,?_,rfl,rfl,rfl,by simpa using perm,tb,?_,?_,?_,⟨k,hk⟩,?_⟩
 ·unfold SetTable.laid
  rw [e];rfl
 ·rw [Ie];simp
 ·intro i hi
  rw [Ie] at hi;rw [B1 i hi];exact((mem _ _).mp (OV hi)).1
 ·rw [Pj,Qk,Lm9,Ig];exact hf
 ·intro i hi
  have hi':i<live.length:=by simpa using hi
  have e1:((live.map (·.2)).toArray.map fun i=>hs.getD i 0).getD i 0=hs.getD (live[i]).2 0:=by simp [PJ,hi']
  rw [e1,B1 i hi'];have mm:(live[i]).1<=mask/\(live[i]).2<hs.size/\pos (live[i]).2=(live[i]).1:=(mem _ _).mp (OV hi')
  obtain⟨m1,m2,m3⟩:=mm;obtain⟨n,k1,k2,k3⟩:=O.pX (live[i]).2 (by rw [hlen];exact m2);have e2:hs.toList[(live[i]).2]'(by rw [hlen];exact m2)=hs.getD (live[i]).2 0:=by simp [PJ,m2]
  rw [e2] at k2 k3;refine⟨n,k1,?_,fun m hm=>?_⟩
  ·rw [eD (t:=t0) (t':=t) rfl,eU (t:=t0) (t':=t) rfl,k2,m3]
  ·refine full _ ?_ (EW _ _)
   rw [eD (t:=t0) (t':=t) rfl,eU (t:=t0) (t':=t) rfl];exact k3 m hm
theorem kY (t:Px):∀(n:Nat) (p:QY),(ba t n p).dummy=p.dummy
 | 0,p=>rfl
 | n+1,p=>by
  rw [ba,kY t n];unfold RH;split <;> rfl
theorem vc (t:Px) (n:Nat) (p:QY):t.advance (ba t n p)=ba t (n+1) p:=by
 rw [eT t n 1 p];rfl
theorem Ad {t:Px} {H:Nat->Int} {h:Int} {m0 c:Nat} (hb:∀c',c'<c->∃i,t.slot (ba t (m0+c') (t.probeStart h)).j=.live i/\(H i == h)=false) (hc:c<10 * QM t.mask) :
  ∃f,t.probe H h (ba t m0 (t.probeStart h))=Rv t H h (f+1) (ba t (m0+c) (t.probeStart h)):=by
 refine⟨10 * QM t.mask - c - 1,?_⟩;unfold SetTable.probe;rw [va t H h c _ _ (fun m hm=>by rw [<- eT];exact hb m hm) (by omega),<- eT];congr 1;omega
theorem vd {t:Px} {H:Nat->Int} {h:Int} {m0 c:Nat} (hs:t.slot (ba t (m0+c) (t.probeStart h)).j=.empty) (hc:c<10 * QM t.mask)
  (hb:∀c',c'<c->∃i,t.slot (ba t (m0+c') (t.probeStart h)).j=.live i/\(H i == h)=false):t.probe H h (ba t m0 (t.probeStart h))=some (.empty (ba t (m0+c) (t.probeStart h)).j none):=by
 obtain⟨f,e⟩:=Ad hb hc;rw [e,Rv,hs];simp only [kY];rfl
theorem yG {t:Px} {H:Nat->Int} {h:Int} {m0 c i:Nat} (hs:t.slot (ba t (m0+c) (t.probeStart h)).j=.live i) (hc:c<10 * QM t.mask)
  (hb:∀c',c'<c->∃i,t.slot (ba t (m0+c') (t.probeStart h)).j=.live i/\(H i == h)=false) (hi:(H i == h)=true) :
  t.probe H h (ba t m0 (t.probeStart h))=some (.candidate (ba t (m0+c) (t.probeStart h)).j i (ba t (m0+c+1) (t.probeStart h))):=by
 obtain⟨f,e⟩:=Ad hb hc;rw [e,Rv,hs];simp only [hi,if_true,vc]
section
variable {prog:Pp} {w:Qn} {A:Pm} {E:OE->OH->Prop} {s:OH} {a:Pf} {o:Obj} {es:Array (Int × OE)} {ep:Nat} {t:Px} {x:OE} {h:Int} {eqv:Nat->Bool} {Q:SetFound->OH->Prop}
theorem tc (ho:s.heap.get? a=some o) (hd:o.data=.set es ep t) (I:m9 t (es.map (·.1))) (yH:(t.mask % 2 == 0)=false)
  (hq:∀i (hi:i<es.size),(es[i]).1=h->QG A s (es[i]).2 x (eqv i)) (EX:∀i (hi:i<es.size),∃b,(es[i]).2=.ref b)
  (ve:t.led=false->∀Q':Bool->OH->Prop,Q' false s->O3 (model prog w) A (searchCouldBeSeen x ((es.filter (·.1 == h)).toList.map (·.2))) Q' E s)
  {n:Nat} (hn:n<=10 * (t.mask+14))
  (td:∀m,m<n->∃i,i<t.place.size/\t.slot (ba t m (t.probeStart h)).j=.live i/\¬ (∃hi:i<es.size,(es[i]).1=h/\eqv i=true))
  (hend:(t.slot (ba t n (t.probeStart h)).j=.empty/\Q (.free (ba t n (t.probeStart h)).j false) s)\/((∃i,t.slot (ba t n (t.probeStart h)).j=.live i/\∃hi:i<es.size,(es[i]).1=h/\eqv i=true)/\Q (.there none) s)) :
  ∀(d m0 fuel:Nat) (vg:Option QY),m0+d=n->d<fuel->vg.getD (t.probeStart h)=ba t m0 (t.probeStart h)->O3 (model prog w) A (setSearchFrom a x h true fuel vg) Q E s:=by
 intro d;induction d using Nat.strongRecOn with
 | ind d ih =>
  intro m0 fuel vg hm Ob tX;obtain⟨fuel,rfl⟩:∃g,fuel=g+1:=⟨fuel - 1,by omega⟩;have hfit:t.fits es.size=true:=by
   have z:=I.sz;have f:=I.fill
   rw [Pj] at z f;simp only [SetTable.fits,Vr,I.tb.nd,ON,beq_iff_eq,decide_eq_true_eq];exact⟨z,by simp;omega⟩
  unfold setSearchFrom;refine OB (PD ho hd hfit ?_);dsimp only;have hg:t.gaveWay=false:=yH
  rw [hg];simp only [OQ,if_false];rw [tX];have hsz:t.place.size=es.size:=by have z:=I.sz;rw [Pj] at z;exact z
  have gH:∀i (hi:i<es.size),((es[i]?.map (·.1)).getD 0)=(es[i]).1:=fun i hi=>by simp [hi]
  obtain⟨c,hcd,hP,Ii⟩:=first (fun c=>m0+c=n\/∃i,t.slot (ba t (m0+c) (t.probeStart h)).j=.live i/\∃hi:i<es.size,(es[i]).1=h) d (.inl hm)
  have BI:c<10 * QM t.mask:=by unfold QM;omega
  have hb:∀c',c'<c->∃i,t.slot (ba t (m0+c') (t.probeStart h)).j=.live i/\(((es[i]?.map (·.1)).getD 0) == h)=false:=fun c' hc'=>by
   have gq:=Ii c' hc';obtain⟨i,h1,h2,_⟩:=td (m0+c') (by omega);refine⟨i,h2,?_⟩;rw [gH i (by omega)];exact beq_eq_false_iff_ne.mpr fun e=>gq (.inr ⟨i,h2,by omega,e⟩)
  have EY:(m0+c=n/\t.slot (ba t (m0+c) (t.probeStart h)).j=.empty)\/∃i,∃hi:i<es.size,t.slot (ba t (m0+c) (t.probeStart h)).j=.live i/\(es[i]).1=h:=by
   rcases hP with e|⟨i,h1,hi,h2⟩
   ·rcases hend with⟨z,_⟩|⟨⟨i,z,hi,h1,_⟩,_⟩
    ·exact .inl ⟨e,by rw [e];exact z⟩
    ·exact .inr ⟨i,hi,by rw [e];exact z,h1⟩
   ·exact .inr ⟨i,hi,h1,h2⟩
  rcases EY with⟨e,hs⟩|⟨i,hi,hs,hh⟩
  ·rw [vd hs BI]
   rotate_left
   ·exact hb
   dsimp only;rcases hend with⟨_,q⟩|⟨⟨i,z,_⟩,_⟩
   ·refine OC ?_
    rw [e];exact q
   ·rw [<- e,hs] at z;cases z
  ·rw [yG (i:=i) hs BI]
   case hb=>exact hb
   case hi =>
    show(((es[i]?.map (·.1)).getD 0) == h)=true;rw [gH i hi,hh];simp
   dsimp only;obtain⟨b,xB⟩:=EX i hi;have ge:es[i]?=some (es[i]):=by simp [hi]
   have tail:O3 (model prog w) A (do
     let some (_,y):=es[i]?|unsupported "internal:set-entry"
     let equal <- holding [y] (eqBool y x)
     let (eH,_,t') <- setState a
     if true && equal then return .there none
     let some same:=t'.sameMemory t.moves t.mask|unsupported "set.changed-during-lookup:is-the-new-block-at-the-old-address"
     let EZ <- match (if same then t'.slot (ba t (m0+c) (t.probeStart h)).j else .empty) with
      | .live i'=>match eH[i']? with
       | some (_,y')=>do pure (if <- isSame y' y then some i' else none)
       | none=>pure none
      | _=>pure none
     match EZ with
     | none=>rule "set.search.anew";setSearchFrom a x h true fuel none
     | some i'=>if equal then return .there (some i') else setSearchFrom a x h true fuel (some (ba t (m0+c+1) (t.probeStart h)))) Q E s:=by
    rw [ge];dsimp only;refine OB (wpAny_holding (hq i hi hh prog w _ _ ?_));refine OB (PD ho hd hfit ?_);dsimp only;cases ev:eqv i with
    | true =>
     simp only [Bool.and_self,if_true];refine OC ?_;rcases hend with⟨z,_⟩|⟨_,q⟩
     ·exfalso
      by_cases en:m0+c=n
      ·rw [<- en,hs] at z;cases z
      ·obtain⟨i',_,h2,h3⟩:=td (m0+c) (by omega)
       rw [hs] at h2;cases h2;exact h3 ⟨hi,hh,ev⟩
     ·exact q
    | false =>
     simp only [SR,OQ,if_false];have hmem:t.sameMemory t.moves t.mask=some true:=by simp [SetTable.sameMemory]
     rw [hmem];simp only [if_true];rw [hs];simp only [ge,xB];refine OB (wpAny_isSame_ref_self (OB (OC ?_)));simp only [if_true,OQ,if_false];have bT:m0+c<n:=by
      refine Nat.lt_of_le_of_ne (by omega) fun en=>?_
      rcases hend with⟨z,_⟩|⟨⟨i',z,hi',h1,h2⟩,_⟩
      ·rw [<- en,hs] at z;cases z
      ·rw [<- en,hs] at z
       cases z;rw [ev] at h2;cases h2
     exact ih (n - (m0+c+1)) (by omega) (m0+c+1) fuel _ (by omega) (by omega) rfl
   cases hl:t.led with
   | true =>
    simp only [RB,OQ,if_false];exact tail
   | false =>
    simp only [SU,if_true];refine OB (ve hl _ ?_);simp only [OQ,if_false];exact tail
end
theorem nQ (n:Nat):∀(fuel k:Nat),n<2 ^ (k+fuel)->2 ^ k<=8+2 * n->∃k',U2 n fuel (2 ^ k)=2 ^ k'/\n<2 ^ k'/\2 ^ k'<=8+2 * n
 | 0,k,h1,h2=>⟨k,rfl,h1,h2⟩
 | fuel+1,k,h1,h2=>by
  unfold U2;by_cases h:2 ^ k<=n
  ·rw [if_pos h,<- RO]
   exact nQ n fuel (k+1) (by rw [show k+1+fuel=k+(fuel+1) by omega];exact h1) (by rw [RO];omega)
  ·rw [if_neg h]
   exact⟨k,rfl,by omega,h2⟩
theorem above {n:Nat} (h:n<2 ^ 60):∃k,TQ n=2 ^ k/\n<2 ^ k/\2 ^ k<=8+2 * n :=
 nQ n 64 3 (O5 h (Vb (by decide) (by decide))) (by omega)
theorem m9.plain {t:Px} {hs:Array Int} (I:m9 t hs) (b:Bool):m9 { t with plain:=b } hs :=
 ⟨⟨I.tb.ri,I.tb.nd⟩,I.sz,I.le,I.fill,I.pw,fun i hi=>by
  obtain⟨n,h1,h2,h3⟩:=I.pX i hi;have e1:∀m p,ba { t with plain:=b } m p=ba t m p:=fun m p=>eD (t:=t) (t':={ t with plain:=b }) rfl m p
  exact⟨n,h1,by rw [e1];exact h2,fun m hm=>by rw [e1];exact h3 m hm⟩⟩
theorem mB {α β:Type} (f:α->β) (xs:Array α) {p:Nat} (hp:p<=xs.size) (x:α):(PB xs p x).map f=PB (xs.map f) p (f x):=by
 apply Array.ext_getElem?;intro i;rw [Array.getElem?_map,eV xs hp,eV (xs.map f) (by rw [Pj];exact hp)];split
 ·simp
 ·split <;> simp
theorem j7 {α:Type} (xs:Array α) {p:Nat} (hp:p<=xs.size) (x:α):(PB xs p x).toList.Perm (x::xs.toList):=by
 unfold PB;rw [Qu,SH,RY,RY];have e:xs.toList=xs.toList.take p++xs.toList.drop p:=(Qy p _).symm
 have e1:xs.toList.extract 0 p=xs.toList.take p:=by simp [TX]
 have e2:xs.toList.extract p xs.size=xs.toList.drop p:=by
  rw [TX];rw [Pk];simp
 rw [e1,e2]
 conv=>rhs;rw [e]
 rw [PR];exact UA
noncomputable def SI (l:Bool) (h:Heap) (a:Pf) (es:Array (Int × OE)):Prop :=
 ∃o ep t,h.get? a=some o/\o.ExactSet/\o.data=.set es ep t/\m9 t (es.map (·.1))/\es.size * 5<t.mask * 3/\t.mask<=8 * es.size+20/\(t.mask % 2 == 0)=false/\(∀i (hi:i<es.size),∃b,(es[i]).2=.ref b)/\t.led=l/\(1<=es.size->t.plain=false)
theorem m9.fits {t:Px} {es:Array (Int × OE)} (I:m9 t (es.map (·.1))):t.fits es.size=true:=by
 have z:=I.sz;have f:=I.fill
 rw [Pj] at z f;simp only [SetTable.fits,Vr,I.tb.nd,ON,beq_iff_eq,decide_eq_true_eq];exact⟨z,by simp;omega⟩
theorem B2 {m k:Nat} (h:m+1=2 ^ k) (hm:1<=m):(m % 2 == 0)=false:=by
 cases k with
 | zero=>simp at h;omega
 | succ k =>
  rw [RO] at h;have:m % 2=1:=by omega
  rw [this];rfl
theorem rL {h:Heap} {a:Pf} {o:Obj} {es:Array (Int × OE)} {ep:Nat} {t:Px} (ho:h.get? a=some o) (hd:o.data=.set es ep t) (eH:Array (Int × OE)) (t':Px) :
  (h.update a (Vu eH t')).get? a=some { o with data:=.set eH (ep+1) t' }:=by
 have:=Qi (Vu eH t') ho (by rw [putSet_of eH t' hd];rfl);rw [putSet_of eH t' hd] at this;exact this
theorem eZ {α:Type}:∀(l:List α),(Pa l.length).filterMap (fun i=>l[i]?)=l
 | []=>rfl
 | a::r=>by
  rw [OP,UD,Tp];simp only [RE,List.filterMap_map];have e:((fun i=>(a::r)[i]?) ∘ Nat.succ)=fun i=>r[i]?:=by funext i;simp
  rw [e,eZ r]
theorem jB (es:Array (Int × OE)):∀(l:List Nat),(∀i∈l,i<es.size)->(l.filterMap (fun i=>es[i]?)).map (·.1)=l.map fun i=>(es.map (·.1)).getD i 0
 | [],_=>rfl
 | i::l,h=>by
  have hi:=h i (by simp);have e:es[i]?=some es[i]:=by simp [hi]
  rw [Tp,e];simp only [OZ];rw [jB es l fun j hj=>h j (by simp [hj])];congr 1;simp [PJ,hi]
section
variable {prog:Pp} {w:Qn} {A:Pm} {E:OE->OH->Prop} {s:OH} {a:Pf} {es:Array (Int × OE)} {x:OE} {h:Int} {eqv:Nat->Bool} {l:Bool}
theorem vh {o:Obj} {ep:Nat} {t:Px} {Q:Unit->OH->Prop} (ho:s.heap.get? a=some o) (hx:o.ExactSet) (hd:o.data=.set es ep t) (I:m9 t (es.map (·.1))) (h1:1<=es.size) (hs:es.size<50000) (hr:∀i (hi:i<es.size),∃b,(es[i]).2=.ref b) (hL:t.led=l) (hP:t.plain=false)
  (hQ:∀h' eH,Rd a s.heap h'->SI l h' a eH->eH.toList.Perm es.toList->Q () { s with heap:=h' }):O3 (model prog w) A (setRelay a (QZ es.size)) Q E s:=by
 have hg:QZ es.size<=4 * 100000/\QZ es.size=4 * es.size:=by
  unfold QZ;rw [if_neg (by omega)];omega
 obtain⟨k,e1,e2,e3⟩:=above (n:=QZ es.size) (Nat.lt_of_le_of_lt hg.1 (by decide));have hm:TQ (QZ es.size) - 1+1=2 ^ k:=by rw [e1];omega
 obtain⟨t',order,f1,f2,f3,f4,f5,f6⟩:=yF hm t.finger (t.movedTo (TQ (QZ es.size) - 1)) t.led t.plain (es.map (·.1)) (by rw [Pj,e1];omega);rw [Pj] at f5;unfold setRelay;refine OB (PD ho hd I.fits ?_);dsimp only;rw [if_neg (by rw [e1,P9];omega)];have Ij:t.relaid (es.map (·.1)) (QZ es.size)=some (t',order):=f1
 rw [Ij];have Ez:(order.filterMap (es[·]?)).toList.Perm es.toList:=by
  rw [UL];have z:=f5.filterMap (fun i=>es[i]?)
  refine z.trans (List.Perm.of_eq ?_);have y:=eZ es.toList
  simpa using y
 have hsz:(order.filterMap (es[·]?)).size=es.size:=by
  rw [<- PY,Ez.length_eq,PY]
 have Ik:(order.filterMap (es[·]?)).map (·.1)=order.map fun i=>(es.map (·.1)).getD i 0:=by
  apply Array.toList_inj.mp;rw [Uz,UL,Uz];exact jB es order.toList fun i hi=>PF.mp (f5.mem_iff.mp hi)
 show O3 (model prog w) A ((do
  let eH:=order.filterMap (es[·]?)
  if eH.size != es.size then unsupported "internal:set-table-lost-an-element"
  pure (eH,t')) >>= fun(p:Array (Int × OE) × Px)=>storeSet a p.1 p.2) Q E s
 refine OB ?_;dsimp only;rw [hsz];simp only [bne_self_eq_false,OQ,if_false];refine OC (wpAny_storeSet_of ho hd ?_ (by rw [hsz,P9];omega));have I':m9 t' ((order.filterMap (es[·]?)).map (·.1)):=by rw [Ik];exact f6
 refine hQ _ (order.filterMap (es[·]?)) (Qa _ _ _) ⟨_,_,t',rL ho hd _ _,hx,rfl,I',?_,?_,?_,fun i hi=>?_,f3.trans hL,fun _=>f4.trans hP⟩ Ez
 ·rw [hsz,f2,e1];omega
 ·rw [hsz,f2,e1];omega
 ·rw [f2];exact B2 hm (by rw [e1];omega)
 ·have hm:(order.filterMap (es[·]?))[i]∈es.toList:=Ez.mem_iff.mp (by rw [S8];exact Array.getElem_mem hi)
  obtain⟨j,hj,e⟩:=QI.mp hm;have hj':j<es.size:=by simpa using hj
  obtain⟨b,hb⟩:=hr j hj';refine⟨b,?_⟩;rw [<- e];simpa using hb
theorem B3 {Q:Bool->OH->Prop} (hS:SI l s.heap a es) (hx:∃b,x=.ref b) (hs:es.size<1000) (hq:∀i (hi:i<es.size),(es[i]).1=h->QG A s (es[i]).2 x (eqv i))
  (ve:∀Q':Bool->OH->Prop,Q' false s->O3 (model prog w) A (searchCouldBeSeen x ((es.filter (·.1 == h)).toList.map (·.2))) Q' E s)
  (Mk:∀Q':Bool->OH->Prop,Q' false s->O3 (model prog w) A (hashByValue 8 x) Q' E s)
  (h1:(∃i,∃hi:i<es.size,(es[i]).1=h/\eqv i=true)->Q false s)
  (h2:(¬ ∃i,∃hi:i<es.size,(es[i]).1=h/\eqv i=true)->∀h' eH,Rd a s.heap h'->SI l h' a eH->eH.toList.Perm ((h,x)::es.toList)->Q true { s with heap:=h' }) :
  O3 (model prog w) A (setAddHashed a x h) Q E s:=by
 obtain⟨o,ep,t,ho,hex,hd,I,Ac,Oc,yH,hr,hL,hP⟩:=hS;obtain⟨b,rfl⟩:=hx;have hsz:t.place.size=es.size:=by have z:=I.sz;rw [Pj] at z;exact z
 obtain⟨k,hk⟩:=I.pw;obtain⟨n,hn,hend,td⟩:=way I.tb hk (by omega) h (fun i=>∃hi:i<es.size,(es[i]).1=h/\eqv i=true);have B4:t.slot (ba t n (t.probeStart h)).j=.empty->¬ ∃i,∃hi:i<es.size,(es[i]).1=h/\eqv i=true:=by
  rintro he ⟨i,hi,e1,e2⟩;obtain⟨n',g1,g2,g3⟩:=I.pX i (by rw [Pj];exact hi);have eh:(es.map (·.1)).getD i 0=h:=by simp [PJ,hi,e1]
  rw [eh] at g2 g3;have hl:=eC I.tb (i:=i) (by omega)
  rw [<- g2] at hl;rcases Uc n n' with q|q|q
  ·exact g3 n q he
  ·subst q;rw [he] at hl;cases hl
  ·obtain⟨i',_,w2,w3⟩:=td n' q
   rw [hl] at w2;cases w2;exact w3 ⟨hi,e1,e2⟩
 unfold setAddHashed;refine wpAny_holding ?_;unfold setAddHashedIn;refine OB (PD ho hd I.fits ?_);dsimp only;have hsc:byScan (.ref b) es=false:=rfl
 rw [hsc];simp only [OQ,if_false];unfold setSearch;refine OB (tc (n:=n) (eqv:=eqv) ho hd I yH hq hr (fun _=>ve) hn td ?_ n 0 100000 none (by omega) (by omega) rfl);rcases hend with he|⟨i,_,hl,hi,e1,e2⟩
 ·refine .inl ⟨he,?_⟩
  dsimp only;refine OB (PD ho hd I.fits ?_);dsimp only;have hj:(ba t n (t.probeStart h)).j<=t.mask:=pZ t n _ (nP t h)
  obtain⟨I1,hp⟩:=lZ I (h:=h) (n:=n) (by omega) he hj (fun m hm=>by obtain⟨i,_,z,_⟩:=td m hm;rw [z];intro q;cases q) (by rw [Pj];omega);rw [Pj] at hp;rw [<- mB (·.1) es hp (h,Q4 b)] at I1;have vm:=j7 es hp (h,Q4 b)
  have E0:(PB es (t.put (ba t n (t.probeStart h)).j).2 (h,Q4 b)).size=es.size+1:=bL es hp _;have Hr:∀i (hi:i<(PB es (t.put (ba t n (t.probeStart h)).j).2 (h,Q4 b)).size),∃b',((PB es (t.put (ba t n (t.probeStart h)).j).2 (h,Q4 b))[i]).2=.ref b':=fun i hi=>by
   have hm:(PB es (t.put (ba t n (t.probeStart h)).j).2 (h,Q4 b))[i]∈(h,Q4 b)::es.toList:=vm.mem_iff.mp (by rw [S8];exact Array.getElem_mem hi);rcases OS.mp hm with e|e
   ·exact⟨b,by rw [e]⟩
   ·obtain⟨j,hj,e⟩:=QI.mp e
    have hj':j<es.size:=by simpa using hj
    obtain⟨b',hb'⟩:=hr j hj';refine⟨b',?_⟩;rw [<- e];simpa using hb'
  have gq:=B4 he;generalize Ml:PB es (t.put (ba t n (t.probeStart h)).j).2 (h,Q4 b)=Ae at *
  have tail:∀t2:Px,m9 t2 (Ae.map (·.1))->t2.mask=t.mask->t2.led=l->t2.plain=false->O3 (model prog w) A (do
    storeSet a Ae t2
    if (!false && t2.tooFull)=true then setRelay a (QZ (es.size+1))
    return true) Q E s:=fun t2 I2 vb vn ro=>by
   refine OB (wpAny_storeSet_of ho hd ?_ (by rw [E0,P9];omega));have hg:=rL ho hd Ae t2
   by_cases hf:t2.tooFull=true
   ·simp only [hf,SU,Bool.and_self,if_true]
    refine OB ?_;rw [<- E0];refine vh (s:={ s with heap:=s.heap.update a (Vu Ae t2) }) hg hex rfl I2 (by omega) (by omega) Hr vn ro fun h' eH uo hS' hp'=>OC ?_
    exact h2 gq h' eH ((Qa s.heap a (Vu Ae t2)).trans uo) hS' (hp'.trans vm)
   ·have hf':t2.tooFull=false:=by simpa using hf
    simp only [hf',SU,SR,OQ,if_false];refine OC ?_;have hnf:Ae.size * 5<t2.mask * 3:=by
     have z:¬ (t2.fill * 5≥t2.mask * 3):=by simpa [SetTable.tooFull] using hf'
     have y:t2.fill=Ae.size:=by
      have q:=I2.sz;rw [Pj] at q;simp only [Vr,I2.tb.nd];simp [q]
     omega
    exact h2 gq _ Ae (Qa _ _ _) ⟨_,_,t2,hg,hex,rfl,I2,hnf,by omega,by rw [vb];exact yH,Hr,vn,fun _=>ro⟩ vm
  cases hpl:(t.put (ba t n (t.probeStart h)).j).1.plain with
  | false =>
   simp only [OQ,if_false];refine OB (OC ?_);simp only [if_true];exact tail _ I1 rfl hL hpl
  | true =>
   simp only [if_true];refine OB (Mk _ ?_);simp only [OQ,if_false];exact tail _ (I1.plain false) rfl hL rfl
 ·refine .inr ⟨⟨i,hl,hi,e1,e2⟩,?_⟩
  exact OC (h1 ⟨i,hi,e1,e2⟩)
end
end br
namespace PySem
theorem typeCall_set_1 (v:OE):checkTypeCall "set" ⟨[v],[]⟩=pure ():=by kernel_rfl
theorem newCall_set_1 (v:OE):checkBuiltinCall "set.__new__" ⟨[.type "set",v],[]⟩=pure ():=by kernel_rfl
theorem sub_list_set:isSubtype (.type "list") (.type "set")=pure false:=by rw [isSubtype_type];kernel_rfl
theorem sub_list_frozenset:isSubtype (.type "list") (.type "frozenset")=pure false:=by rw [isSubtype_type];kernel_rfl
section
variable {prog:Pp} {w:Qn} {A:Pm} {E:OE->OH->Prop} {s:OH}
theorem j8 {v:OE} {Q₁:OE->OH->Prop}
  (h:Q₁ (.ref s.heap.objs.size) { s with heap:=s.heap.push { cls:=.type "set",dict:=none,data:=.set #[] 0 (.fresh 0 0 (!w.params.followText "set-order")) } }) :
  codeAny (model prog w) A (.call (.builtin "set.__new__") ⟨[.type "set",v],[]⟩) (wants Q₁ E) s:=by
 refine codeAny_of_tree ?_;show O3 _ A.in1 (do checkBuiltinCall "set.__new__" ⟨[.type "set",v],[]⟩;again (.builtin "set.__new__" ⟨[.type "set",v],[]⟩)) _ _ s
 refine OB (wpAny_of_eq (newCall_set_1 v) (OC ⟨plainId_quiet F.plain_set_new _,codeAny_builtin F.entry_set_new ?_⟩));rw [Pw F.plain_set_new _];unfold Builtin.«set.__new__» Builtin.Frozenset.newClass;have Il:=sub_set_self
 obtain⟨hp,g,d,tk,os⟩:=s;dsimp only
 wp_walk
 refine wpAny_askSetting (OC ?_);dsimp only;simp only [newObj];refine OB (wpAny_alloc (OC ?_));exact OC h
theorem iS {M:Model} {self v:OE} {Q:Unit->OH->Prop} (hT:s.TypeIs self "set") (hQ:Q () s) :
  O3 M A (checkBuiltinCall "set.__init__" ⟨[self,v],[]⟩) Q E s:=by
 simp only [checkBuiltinCall,kind_set_init,split_set_init,sig_set_init];refine OB (wpAny_isInstance hT sub_set_self ?_);simp only [RB,OQ,if_false];unfold Bind.checkArgs;dsimp only;refine OB (m:=Bind.printed "set" true _ _) (PyProof.Rows.printed_name (by decide) ?_);refine OB (m:=Bind.printed "*" false _ _) (PyProof.Rows.printed_star (self:=self) rfl hT fun short=>?_);have Mm:(UM == UN)=false:=by decide
 have hn:(if (UM == UN)=true then [self,v].length else [self,v].length - 1)=1:=by simp [Mm]
 rw [hn];simp only [Qp];have hc:Bind.check ⟨.positional,"set","*",.self,[⟨"iterable",.posOnly,false⟩]⟩ "set" short 1 []=pure ():=by
  have hp:(TF == TF)=true:=by decide
  simp [Bind.check,Bind.checkCount,Bind.isPositional,hp]
 rw [hc];exact OC hQ
set_option maxHeartbeats 1000000 in
theorem jC {l:Pf} {items:Array OE} {Q:OE->OH->Prop} (hl:s.heap.IsList l items)
  {led:Bool} (Im:led = !w.params.followText "set-order") (h:codeAny (model prog w) A.in1.in1 (.builtin "set.update.loop" ⟨[.ref s.heap.objs.size,.ref (s.heap.objs.size+1)],[]⟩) (wants (fun _ s'=>Q (.ref s.heap.objs.size) s') E)
   { s with heap:=(s.heap.push { cls:=.type "set",dict:=none,data:=.set #[] 0 (.fresh 0 0 led) }).push { cls:=.type "list_iterator",data:=.fields #[.ref l,.int 0 0] } }) :
  O3 (model prog w) A (call (.type "set") [.ref l]) Q E s:=by
 obtain⟨c,tl,Mn⟩:=RP.mro;have hmade:=RP.made
 have Il:=RP.sub;refine wpAny_call (codeAny_of_tree ?_);show O3 _ _ (callAny (.type "set") _) _ _ _
 refine OC ⟨Code.quiet_builtin _ (by decide +kernel),codeAny_builtin F.entry_type_call ?_⟩;rw [Around.under_plain (weight_type_call_type "set" [.ref l] []) rfl];have h1:=RP.notType
 have h2:=RP.canCreate;have BI:=typeCall_set_1 (.ref l)
 repeat (any_goals (first|assumption|wp_step))
 refine codeAny_mono (j8 (E:=E) (Q₁:=fun obj s₁=>obj=.ref s.heap.objs.size/\s₁={ s with heap:=s.heap.push { cls:=.type "set",dict:=none,data:=.set #[] 0 (.fresh 0 0 led) } }) ⟨rfl,by rw [Im]⟩) fun r s₁ hr=>?_
 cases r with
 | error e=>exact hr
 | ok fl =>
  cases fl with
  | ret obj =>
   obtain⟨rfl,rfl⟩:=hr;have hS:(s.heap.push { cls:=.type "set",dict:=none,data:=.set #[] 0 (.fresh 0 0 led) }).get? s.heap.objs.size=some { cls:=.type "set",dict:=none,data:=.set #[] 0 (.fresh 0 0 led) }:=OM _ rfl
   have hT:Um { s with heap:=s.heap.push { cls:=.type "set",dict:=none,data:=.set #[] 0 (.fresh 0 0 led) } } (.ref s.heap.objs.size) "set":=⟨_,hS,rfl⟩;have Od:=RP.init.lookup
   have Oe:=RP.init.bind (.ref s.heap.objs.size)
   repeat (any_goals (first|assumption|wp_step))
   refine codeAny_mono (codeAny_call_builtin (R:=wants (fun r s₂=>r=.none/\Q (.ref s.heap.objs.size) s₂) E) RP.init.plain F.entry_set_init (iS hT ?_)) fun r₂ s₂ Io=>?_
   ·unfold Builtin.«set.__init__» noKeywords
    have hl':(s.heap.push { cls:=.type "set",dict:=none,data:=.set #[] 0 (.fresh 0 0 led) }).IsList l items:=by obtain⟨o,ho,r⟩:=hl;exact⟨o,OJ _ ho,r⟩
    have Of:Um { s with heap:=s.heap.push { cls:=.type "set",dict:=none,data:=.set #[] 0 (.fresh 0 0 led) } } (.ref l) "list":=hl'.typeIs;have BL:=sub_list_set
    have A7:=sub_list_frozenset;have HU:∀{A':Pm} {Q':OE->OH->Prop} {E':OE->OH->Prop},Q' (.ref (s.heap.objs.size+1)) { s with heap:=(s.heap.push { cls:=.type "set",dict:=none,data:=.set #[] 0 (.fresh 0 0 led) }).push { cls:=.type "list_iterator",data:=.fields #[.ref l,.int 0 0] } } ->
      O3 (model prog w) A' (pyIter (.ref l)) Q' E' { s with heap:=s.heap.push { cls:=.type "set",dict:=none,data:=.set #[] 0 (.fresh 0 0 led) } }:=fun {A' Q' E'} hq=>by
     have e:(s.heap.push { cls:=.type "set",dict:=none,data:=.set #[] 0 (.fresh 0 0 led) }).objs.size=s.heap.objs.size+1:=Rl _ _;refine wpAny_pyIter_list (s:={ s with heap:=s.heap.push { cls:=.type "set",dict:=none,data:=.set #[] 0 (.fresh 0 0 led) } }) hl' ?_;show Q' (.ref (s.heap.push _).objs.size) _
     rw [e];exact hq
    wp_walk using HU
    refine codeAny_mono h fun r3 s3 Ip=>?_
    cases r3 with
    | error e=>exact Ip
    | ok f3 =>
     cases f3 with
     | ret v3=>exact OC (OC ⟨rfl,Ip⟩)
     | _=>exact Ip.elim
   ·cases r₂ with
    | error e=>exact Io
    | ok Mo =>
     cases Mo with
     | ret r =>
      obtain⟨rfl,hq⟩:=Io
      repeat (any_goals (first|assumption|wp_step))
     | _=>exact Io.elim
  | _=>exact hr.elim
end
end PySem
namespace PySem.F
theorem aQ:Slot "set_iterator" "__next__" "set_iterator.__next__" :=
 .of (owner:="set_iterator") (n:="__next__") (by rw [typeLookup_type,builtinLookup_eq_fast];kernel_rfl) (by decide +kernel) (by decide +kernel) (by decide +kernel)
  (by first|exact .inl (by decide +kernel)|exact .inr (by decide +kernel)) (by rw [isSubtype_type];kernel_rfl)
theorem fe:entryFor table "set_iterator.__next__"=some Builtin.«set_iterator.__next__»:=entryFor_of_tree (by kernel_rfl)
theorem fy (a:OE):argsOk "set_iterator.__next__" ⟨[a],[]⟩:=by unfold argsOk;kernel_rfl
theorem fA:Slot "set_iterator" "__iter__" "set_iterator.__iter__" :=
 .of (owner:="set_iterator") (n:="__iter__") (by rw [typeLookup_type,builtinLookup_eq_fast];kernel_rfl) (by decide +kernel) (by decide +kernel) (by decide +kernel)
  (by first|exact .inl (by decide +kernel)|exact .inr (by decide +kernel)) (by rw [isSubtype_type];kernel_rfl)
theorem iT:entryFor table "set_iterator.__iter__"=some Builtin.«dict_keyiterator.__iter__» :=
 entryFor_alias (id':="dict_keyiterator.__iter__") (by kernel_rfl) rfl (by decide +kernel) (by kernel_rfl)
theorem jD (a:OE):argsOk "set_iterator.__iter__" ⟨[a],[]⟩:=by unfold argsOk;kernel_rfl
theorem iU:entryFor table "set.__iter__"=some Builtin.«frozenset.__iter__» :=
 entryFor_alias (id':="frozenset.__iter__") (by kernel_rfl) rfl (by decide +kernel) (by kernel_rfl)
end PySem.F
namespace br
open PySem
theorem jE {α:Type} {l:List α} {i:Nat} (h:i<l.length):(l[i]::l.eraseIdx i).Perm l:=by
 rw [Qm];have e:l=l.take i++l[i]::l.drop (i+1):=by rw [List.getElem_cons_drop,Qy]
 conv=>rhs;rw [e]
 exact UA.symm
theorem rM {α:Type} (next:Nat->Nat):∀(n k:Nat) (left:List α) (out:Array α),left.length=n->(pickOrder.go next n k left out).toList.Perm (out.toList++left)
 | 0,k,left,out,h=>by
  have:left=[]:=Ry.mp h;subst this;rw [QD];exact .refl _
 | n+1,k,left,out,h=>by
  have hi:next k % left.length<left.length:=PZ _ (by omega)
  unfold pickOrder.go;rw [Ge9 hi];dsimp only;refine(rM next n (k+1) _ _ (by rw [TG hi];omega)).trans ?_;rw [SH,PR];exact(jE hi).append_left _
theorem kZ {α:Type} (next:Nat->Nat) (xs:Array α):(pickOrder next xs).toList.Perm xs.toList:=by
 have z:=rM next xs.size 0 xs.toList #[] (by simp)
 simpa [pickOrder] using z
section
variable {M:Model} {A:Pm} {E:OE->OH->Prop} {s:OH}
theorem te {src:Source} {n:Nat} {Q:Nat->OH->Prop} (hn:n≠0) (h:∀k dr,k<n->Q k { s with drawn:=dr }):O3 M A (choose src n) Q E s :=
 fun _ _ _=>⟨hn,h _ _ (PZ _ (Nat.pos_of_ne_zero hn))⟩
theorem rN {α:Type}:∀(n:Nat) (xs:List α) (s:OH) (Q:List α->OH->Prop),xs.length=n->(∀l dr,l.Perm xs->Q l { s with drawn:=dr })->O3 M A (drawOrder n xs) Q E s
 | 0,xs,s,Q,h,hQ=>by
  have:xs=[]:=Ry.mp h;subst this;exact OC (hQ [] s.drawn (.refl _))
 | n+1,[],s,Q,h,hQ=>by cases h
 | n+1,x::xs,s,Q,h,hQ=>by
  unfold drawOrder;refine OB (te (by simp) fun k dr hk=>?_);rw [Ge9 hk];dsimp only;refine OB (rN n _ _ _ (by rw [TG hk];omega) fun l Mp hp=>OC ?_);exact hQ _ Mp ((hp.cons _).trans (jE hk))
end
noncomputable def dE (h:Heap) (I a:Pf) (first:OE) (i n ep:Nat):Prop:=∃o,h.get? I=some o/\o.cls=.type "set_iterator"/\o.data=.fields #[first,.int i 0,.ref a,.int n 0,.int ep 0]
noncomputable def b7 (h:Heap) (a:Pf) (es:Array (Int × OE)) (ep:Nat) (t:Px):Prop:=∃o,h.get? a=some o/\o.cls=.type "set"/\o.data=.set es ep t
noncomputable def Way (w:Qn) (h:Heap) (a:Pf) (es:Array (Int × OE)) (ep:Nat) (t:Px) (pl:List Nat) (T:Pf) (ord:List OE) (i:Nat) (first:OE):Prop :=
 (w.params.followText "set-order"=true/\first=.int 0 0/\ord=(pickOrder (w.params.setOrder a ep) es).toList.map (·.2)) \/
 (w.params.followText "set-order"=false/\first=.ref T/\h.IsTuple T (pl.map fun(j:Nat)=>VD j 0).toArray/\pl.Perm (Pa es.size)/\ord=pl.map fun j=>(es.getD j (0,.none)).2) \/
 (w.params.followText "set-order"=false/\t.led=true/\es.size<=1/\ord=es.toList.map (·.2)/\((i=0/\first=.int 0 0)\/(i=1/\∃k:Nat,first=.int k 0/\∀j,j<t.place.size->t.place.getD j 0<k)))
section
variable {prog:Pp} {w:Qn} {A:Pm} {E:OE->OH->Prop} {s:OH} {I a T:Pf} {first:OE} {i ep:Nat} {es:Array (Int × OE)} {t:Px} {pl:List Nat} {ord:List OE}
theorem dE.typeIs {h:Heap} {n:Nat} (x:dE s.heap I a first i n ep):s.TypeIs (.ref I) "set_iterator":=let ⟨o,ho,hc,_⟩:=x;⟨o,ho,hc⟩
theorem gf {Q:Array (Int × OE)->OH->Prop} (hS:b7 s.heap a es ep t) (hf:t.fits es.size=true) (h:Q es s):O3 (model prog w) A (setEntries a) Q E s:=by
 obtain⟨o,ho,_,hd⟩:=hS;unfold setEntries;exact OB (PD ho hd hf (OC h))
theorem cE {Q:Bool->OH->Prop} (h:Q (w.params.followText "set-order") s):O3 (model prog w) A setsByText Q E s:=by
 unfold setsByText;exact OB (wpAny_askSetting (OC h))
theorem mC (W:Way w s.heap a es ep t pl T ord i first):ord.length=es.size:=by
 rcases W with⟨_,_,e⟩|⟨_,_,_,p,e⟩|⟨_,_,_,e,_⟩
 ·rw [e,Lm9,(kZ _ es).length_eq,PY]
 ·rw [e,Lm9,p.length_eq,Q3]
 ·rw [e,Lm9,PY]
theorem range_getD (es:Array (Int × OE)):∀n,n<=es.size->(Pa n).map (fun j=>(es.getD j (0,.none)).2)=(es.toList.take n).map (·.2):=fun n hn=>by
 apply Qe (by simp;omega);intro j h1 h2;have hj:j<es.size:=by simp at h1;omega
 simp [hj]
theorem vo (W:Way w s.heap a es ep t pl T ord i first):ord.Perm (es.toList.map (·.2)):=by
 rcases W with⟨_,_,e⟩|⟨_,_,_,p,e⟩|⟨_,_,_,e,_⟩
 ·rw [e];exact(kZ _ es).map _
 ·rw [e]
  have z:=p.map (fun j=>(es.getD j (0,P7)).2);rw [range_getD es es.size (OR _),Pk (by simp)] at z;exact z
 ·rw [e]
theorem B5 {h:Heap} {n:Nat} (x:dE h I a first i n ep):dE (h.update I (Sj (·.setIfInBounds 1 (rawInt ((i:Int)+1))))) I a first (i+1) n ep:=by
 obtain⟨o,ho,hc,hd⟩:=x;exact⟨_,Qi _ ho (SV (Rh hd _)),(T7 ..).trans hc,by rw [Rh hd];simp [rawInt]⟩
theorem B6 {h:Heap} {n:Nat} {f:OE} (x:dE h I a first i n ep):dE (h.update I (Sj (·.setIfInBounds 0 f))) I a f i n ep:=by
 obtain⟨o,ho,hc,hd⟩:=x;exact⟨_,Qi _ ho (SV (Rh hd _)),(T7 ..).trans hc,by rw [Rh hd];simp⟩
theorem B7 {n:Nat} {Q:Unit->OH->Prop} (x:dE s.heap I a first i n ep) (h:Q () { s with heap:=s.heap.update I (Sj (·.setIfInBounds 1 (rawInt ((i:Int)+1)))) }):O3 (model prog w) A (setField (.ref I) 1 (rawInt ((i:Int)+1))) Q E s:=by
 obtain⟨o,ho,hc,hd⟩:=x;exact wpAny_setField ho hd (by simp) h
theorem B8 {n:Nat} {f:OE} {Q:Unit->OH->Prop} (x:dE s.heap I a first i n ep) (h:Q () { s with heap:=s.heap.update I (Sj (·.setIfInBounds 0 f)) }):O3 (model prog w) A (setField (.ref I) 0 f) Q E s:=by
 obtain⟨o,ho,hc,hd⟩:=x;exact wpAny_setField ho hd (by simp) h
set_option maxHeartbeats 1000000 in
theorem next_item {Q:Option OE->OH->Prop} (nR:m9 t (es.map (·.1))) (E1:I≠T) (hIa:I≠a) (hit:dE s.heap I a first i es.size ep) (hS:b7 s.heap a es ep t) (W:Way w s.heap a es ep t pl T ord i first) (hi:i<es.size)
  (hQ:∀v h' vq,ord[i]?=some v->dE h' I a vq (i+1) es.size ep->Way w h' a es ep t pl T ord (i+1) vq->Rd I s.heap h'->Q (some v) { s with heap:=h' }):O3 (model prog w) A (pyNext (.ref I)) Q E s:=by
 obtain⟨o,ho,hc,hd⟩:=id hit;have hf:=nR.fits
 have kE:=mC W;unfold pyNext;refine OB (wpAny_attempt (wpAny_callSpecial?_slot (name:=Rg "__next__") (dE.typeIs (h:=s.heap) hit) F.aQ
  (wpAny_call_entry F.aQ (dE.typeIs (h:=s.heap) hit) F.fe ?_ (F.fy _))))
 unfold Builtin.«set_iterator.__next__»;refine OB (wpAny_of_eq (a:=(Q4 I,[])) rfl ?_);dsimp only;refine OB (wpAny_fieldsOf ho hd ?_);dsimp only;refine OB (gf hS hf ?_);rw [if_neg (by simp)];rcases id W with⟨hT,rfl,e⟩|⟨hT,rfl,hp,pp,e⟩|⟨hT,hl,h1,e,hw⟩
 ·dsimp only
  unfold setNext;obtain⟨oa,rO,_,oW⟩:=id hS;refine OB (OB (PD rO oW hf ?_));dsimp only;refine OB (cE ?_);rw [hT];simp only [if_true,Qf,bne_self_eq_false,OQ,if_false];unfold setWalk;refine OB (OB (PD rO oW hf ?_));dsimp only;refine OB (cE ?_);rw [hT];simp only [if_true];refine OB (wpAny_askSetting (OC ?_));refine OC ?_;have KD:i<ord.length:=by omega
  have hx:(pickOrder (w.params.setOrder a ep) es)[i]?.map (·.2)=some ord[i]:=by
   rw [<- QP,<- Pb,<- e,Ge9 KD]
  obtain⟨y,hy,Mq⟩:=OW.mp hx;have hy':(pickOrder ({ program:=(model prog w).prog,params:=(model prog w).w.params:Setting }.params.setOrder a ep) es)[i]?=some y:=hy
  rw [hy'];dsimp only [VG];refine OB (B8 hit ?_);have h0:=B6 (f:=rawInt ((VE 0:Nat):Int)) hit
  refine OB (B7 (s:={ s with heap:=_ }) h0 ?_);refine OC ⟨_,rfl,OC (hQ _ _ _ (by rw [Ge9 KD,Mq]) (B5 h0) (.inl ⟨hT,rfl,e⟩) ((Qa ..).trans (Qa ..)))⟩
 ·dsimp only
  obtain⟨oT,E2,_,nT,Iq⟩:=id hp;refine OB (wpAny_seqItems E2 Iq ?_);dsimp only;have hpl:i<pl.length:=by rw [pp.length_eq,Q3];exact hi
  have hj:pl[i]<es.size:=PF.mp (pp.mem_iff.mp (OV hpl));have hx:(pl.map fun(j:Nat)=>VD j 0).toArray[((i:Nat):Int).toNat]?=some (VD (pl[i]:Nat) 0):=by simp [hpl]
  rw [hx];dsimp only;refine OB ?_;unfold setNextDrawn;obtain⟨oa,rO,_,oW⟩:=id hS;refine OB (PD rO oW hf ?_);dsimp only;simp only [Qf,bne_self_eq_false,OQ,if_false,OO hj];refine OC ?_;refine OB (B7 hit ?_);refine OC ⟨_,rfl,OC (hQ _ _ _ ?_ (B5 hit) (.inr (.inl ⟨hT,rfl,⟨oT,(Po _ _ E1).trans E2,?_⟩,pp,e⟩)) (Qa ..))⟩
  ·subst e
   simp [hpl,hj]
  ·obtain⟨Og,E3,r⟩:=hp
   rw [E2] at E3;cases E3;exact r
 ·have Mr:i=0:=by omega
  subst Mr;rcases hw with⟨_,rfl⟩|⟨z,_⟩
  ·dsimp only
   unfold setNext;obtain⟨oa,rO,_,oW⟩:=id hS;refine OB (OB (PD rO oW hf ?_));dsimp only;refine OB (cE ?_);rw [hT];have DM:t.place.size=es.size:=by have z:=nR.sz;rw [Pj] at z;exact z
   have hb:PQ t.place (VE 0)=0:=by
    have z:=eS t.place nR.tb.ri (VE 0);rcases Nat.eq_zero_or_pos (PQ t.place (VE 0)) with q|q
    ·exact q
    ·exact absurd (z.2.1 0 q) (Nat.not_lt_zero _)
   refine wpAny_ite_split (fun hab=>absurd hab (by decide)) fun _=>?_
   refine wpAny_ite_split (fun hab=>absurd hab (show ¬ ((!t.plain && decide (es.size > 1))=true) from by simp;omega)) fun _=>?_
   refine OB (show O3 (model prog w) A.in1 (if (!t.led && !es.isEmpty)=true then unsupported "set:maker-not-led" else pure ()) _ _ s from ?_);rw [hl];refine wpAny_ite_split (fun hab=>absurd hab (by simp)) fun _=>?_
   refine OC (OC ?_);rw [hb,OO (by omega),OO (by omega)];dsimp only;refine OB (B8 hit ?_);have h0:=B6 (f:=rawInt ((t.place[0]'(by omega)+1:Nat):Int)) hit
   refine OB (B7 (s:={ s with heap:=_ }) h0 ?_);refine OC ⟨_,rfl,OC (hQ _ _ _ ?_ (B5 h0) (.inr (.inr ⟨hT,hl,h1,e,.inr ⟨rfl,_,rfl,fun j hj=>?_⟩⟩)) ((Qa ..).trans (Qa ..)))⟩
   ·subst e
    simp [hi]
   ·have:j=0:=by omega
    subst this;simp [hj]
  ·cases z
set_option maxHeartbeats 1000000 in
theorem next_end {Q:Option OE->OH->Prop} (hh:A.handled=none) (nR:m9 t (es.map (·.1))) (hit:dE s.heap I a first es.size es.size ep) (hS:b7 s.heap a es ep t) (W:Way w s.heap a es ep t pl T ord es.size first)
  (hQ:∀h',VC I s.heap h'->Q none { s with heap:=h' }):O3 (model prog w) A (pyNext (.ref I)) Q E s:=by
 obtain⟨o,ho,hc,hd⟩:=id hit;have hf:=nR.fits
 have kE:=mC W;have fin:∀(h1:Heap) (f:OE),dE h1 I a f es.size es.size ep->VC I s.heap h1->O3 (model prog w) A.in1 (do
   setField (Q4 I) 2 P7
   let e <- newExc (Ue "StopIteration") []
   raiseNew e:Sem PySem.Fin) (fun fin s'=>∃v,fin=PySem.Fin.done (Flow.ret v)/\O3 (model prog w) A (pure (some v)) Q E s') (fun e s'=>O3 (model prog w) A (do
     let b <- isInstance e (Ue "StopIteration")
     if b=true then pure none else throw e) Q E s') { s with heap:=h1 }:=fun h1 f Ms hex=>by
  obtain⟨o1,Hn,Oh,Mt⟩:=Ms;refine OB (wpAny_setField (s:={ s with heap:=h1 }) Hn Mt (by simp) ?_);refine OB ?_;simp only [newExc,newTuple];refine OB (wpAny_newObj_type ?_ (by size_fits));refine OB (m:=firstArgMember _ _) (wpAny_of_eq (a:=P7) (by first|rfl|(simp only [firstArgMember];rfl)) ?_);refine wpAny_newObj_type ?_ (by size_fits);simp only [raiseNew];refine OB (wpAny_handled ?_);rw [show A.in1.handled=none from hh];refine OB (OC (wpAny_throw ?_));refine OB (wpAny_isInstance (T:="StopIteration") (b:=true) ⟨_,OM _ rfl,rfl⟩ isSubtype_stop ?_);refine OC (hQ _ fun b ob hb Ir=>?_);exact OJ _ (OJ _ ((Po _ _ (Qz hb)).trans (hex b ob hb Ir)))
 unfold pyNext;refine OB (wpAny_attempt (wpAny_callSpecial?_slot (name:=Rg "__next__") (dE.typeIs (h:=s.heap) hit) F.aQ
  (wpAny_call_entry F.aQ (dE.typeIs (h:=s.heap) hit) F.fe ?_ (F.fy _))))
 unfold Builtin.«set_iterator.__next__»;refine OB (wpAny_of_eq (a:=(Q4 I,[])) rfl ?_);dsimp only;refine OB (wpAny_fieldsOf ho hd ?_);dsimp only;refine OB (gf hS hf ?_);rw [if_neg (by simp)];rcases id W with⟨hT,rfl,e⟩|⟨hT,rfl,hp,pp,e⟩|⟨hT,hl,h1,e,hw⟩
 ·dsimp only
  unfold setNext;obtain⟨oa,rO,_,oW⟩:=id hS;refine OB (OB (PD rO oW hf ?_));dsimp only;refine OB (cE ?_);rw [hT];simp only [if_true,Qf,bne_self_eq_false,OQ,if_false];unfold setWalk;refine OB (OB (PD rO oW hf ?_));dsimp only;refine OB (cE ?_);rw [hT];simp only [if_true];refine OB (wpAny_askSetting (OC ?_));refine OC ?_;have hy:(pickOrder (w.params.setOrder a ep) es)[es.size]?=none:=by
   rw [TH];rw [e,Lm9,PY] at kE;omega
  have hy':(pickOrder ({ program:=(model prog w).prog,params:=(model prog w).w.params:Setting }.params.setOrder a ep) es)[es.size]?=none:=hy;rw [hy'];exact fin s.heap _ hit fun _ _ _ z=>z
 ·dsimp only
  obtain⟨oT,E2,_,nT,Iq⟩:=id hp;refine OB (wpAny_seqItems E2 Iq ?_);dsimp only;have hpl:pl.length=es.size:=by rw [pp.length_eq,Q3]
  have hx:(pl.map fun(j:Nat)=>VD j 0).toArray[((es.size:Nat):Int).toNat]?=none:=by simp [hpl]
  rw [hx];dsimp only;refine OB (B8 hit ?_);exact fin _ _ (B6 hit) fun b ob hb Ir=>(Po _ _ (Qz hb)).trans Ir
 ·have DM:t.place.size=es.size:=by have z:=nR.sz;rw [Pj] at z;exact z
  have hk:∃k:Nat,first=.int k 0/\es.size<=PQ t.place k:=by
   rcases hw with⟨z,rfl⟩|⟨z,k,rfl,hk⟩
   ·exact⟨0,rfl,by omega⟩
   ·refine⟨k,rfl,?_⟩
    have q:=eS t.place nR.tb.ri k;rcases TN (PQ t.place k) es.size with y|y
    ·have:=q.2.2 (PQ t.place k) (OR _) (by omega)
     have:=hk (PQ t.place k) (by omega);omega
    ·exact y
  obtain⟨k,rfl,hb⟩:=hk;dsimp only;unfold setNext;obtain⟨oa,rO,_,oW⟩:=id hS;refine OB (OB (PD rO oW hf ?_));dsimp only;refine OB (cE ?_);rw [hT];refine wpAny_ite_split (fun hab=>absurd hab (by decide)) fun _=>?_
  refine wpAny_ite_split (fun hab=>absurd hab (show ¬ ((!t.plain && decide (es.size > 1))=true) from by simp;omega)) fun _=>?_
  refine OB (show O3 (model prog w) A.in1 (if (!t.led && !es.isEmpty)=true then unsupported "set:maker-not-led" else pure ()) _ _ s from ?_);rw [hl];refine wpAny_ite_split (fun hab=>absurd hab (by simp)) fun _=>?_
  refine OC (OC ?_);rw [Qf,TH.mpr hb];exact fin s.heap _ hit fun _ _ _ z=>z
theorem yI {n:Nat} {Q:OE->OH->Prop} (hit:dE s.heap I a first i n ep) (h:Q (.ref I) s):O3 (model prog w) A (pyIter (.ref I)) Q E s:=by
 refine wpAny_pyIter_slot (dE.typeIs (h:=s.heap) hit) F.fA (wpAny_call_entry F.fA (dE.typeIs (h:=s.heap) hit) F.iT ?_ (F.jD _));show O3 _ _ (ret (.ref I)) _ _ s
 exact OC ⟨_,rfl,"set_iterator",_,dE.typeIs (h:=s.heap) hit,F.aQ.lookup,h⟩
theorem tf (hh:A.handled=none) (nR:m9 t (es.map (·.1))) (E1:I≠T) (hIa:I≠a) :
  Walks prog w A I [I,a,T] [I] es.size (fun i v=>ord[i]?=some v) (fun i h=>∃first,dE h I a first i es.size ep/\b7 h a es ep t/\Way w h a es ep t pl T ord i first) where
 sub:=fun b hb=>by simp at hb;simp [hb]
 frame:=fun i h h' ⟨first,⟨o,ho,r⟩,⟨o2,sL,r2⟩,W⟩ hk=>⟨first,⟨o,hk I (by simp) o ho,r⟩,⟨o2,hk a (by simp) o2 sL,r2⟩,by
  rcases W with z|⟨z1,z2,⟨o3,Mu,r3⟩,z4⟩|z
  ·exact .inl z
  ·exact .inr (.inl ⟨z1,z2,⟨o3,hk T (by simp) o3 Mu,r3⟩,z4⟩)
  ·exact .inr (.inr z)⟩
 item:=fun i s Q E hi ⟨first,hit,hS,W⟩ hQ=>next_item nR E1 hIa hit hS W hi fun v h' f' hv hit' W' sb=>by
  obtain⟨o2,sL,r2⟩:=hS;exact hQ v h' s.toks hv ⟨f',hit',⟨o2,(sb.2 a (Qz hIa)).trans sL,r2⟩,W'⟩ fun b o hb ho=>(sb.2 b (by simpa using hb)).trans ho
 done:=fun s Q E ⟨first,hit,hS,W⟩ hQ=>next_end hh nR hit hS W fun h' hx=>hQ h' s.toks fun b o hb ho=>hx b o (by simpa using hb) ho
 self:=fun i s Q E ⟨first,hit,hS,W⟩ h=>yI hit h
end
section
variable {prog:Pp} {w:Qn} {A:Pm} {E:OE->OH->Prop} {s:OH} {a:Pf} {ep:Nat} {es:Array (Int × OE)} {t:Px}
theorem b7.push {h:Heap} (x:b7 h a es ep t) (o:Obj):b7 (h.push o) a es ep t:=let ⟨o',ho,r⟩:=x;⟨o',OJ _ ho,r⟩
set_option maxHeartbeats 1000000 in
theorem yJ {Q:OE->OH->Prop} (nR:m9 t (es.map (·.1))) (hS:b7 s.heap a es ep t) (hl:t.led = !w.params.followText "set-order") (hp:1<=es.size->t.plain=false) (hsz:es.size<1000)
  (hQ:∀I T first pl ord h' dr,s.heap.objs.size<=I->s.heap.objs.size<=T->I≠T->(∀b o,s.heap.get? b=some o->h'.get? b=some o)->dE h' I a first 0 es.size ep->b7 h' a es ep t->Way w h' a es ep t pl T ord 0 first->Q (.ref I) { s with heap:=h',drawn:=dr }) :
  O3 (model prog w) A (pyIter (.ref a)) Q E s:=by
 obtain⟨o,ho,hc,hd⟩:=id hS;have hT:s.TypeIs (.ref a) "set":=⟨o,ho,hc⟩
 have hf:=nR.fits;refine wpAny_pyIter_slot hT F.slot_set_iter (wpAny_call_entry F.slot_set_iter hT F.iU ?_ (F.args_set_iter_1 _));unfold Builtin.«frozenset.__iter__»;refine OB (wpAny_of_eq (a:=a) rfl ?_);dsimp only;refine OB (m:=Builtin.Frozenset.sizeOf a) (show O3 _ _ (setEntries a >>= fun es=>pure es.size) _ _ _ from OB (gf hS hf (OC ?_)));refine OB (m:=setDrawn a) (show O3 _ _ (setState a >>= fun q=>setsByText >>= fun b=>pure (!b && (!q.2.2.plain && decide (q.1.size > 1)))) _ _ _ from OB (PD ho hd hf (OB (cE (OC ?_)))));have KG:∀{A':Pm} {E':OE->OH->Prop} {s':OH} {Q':Nat->OH->Prop},b7 s'.heap a es ep t->Q' ep s'->O3 (model prog w) A' (setEpoch a) Q' E' s':=fun {A' E' s' Q'} ⟨o',ho',_,hd'⟩ q=>by
  unfold setEpoch;exact OB (PD ho' hd' hf (OC q))
 by_cases hdr:(!w.params.followText "set-order" && (!t.plain && decide (es.size > 1)))=true
 ·rw [if_pos hdr]
  have h1:w.params.followText "set-order"=false:=by simpa using (Bool.and_eq_true_iff.mp hdr).1
  refine OB (rN _ _ _ _ (Q3) fun l dr hp=>?_);have vn:l.length=es.size:=by rw [hp.length_eq,Q3]
  refine OB (wpAny_newObj_type (T:="tuple") (data:=.seq (l.map fun(i:Nat)=>rawInt i).toArray) ?_ (by show(l.map fun(i:Nat)=>rawInt i).toArray.size<=O6;simp only [Qk,Lm9];rw [P9];omega));refine OB (KG (b7.push hS _) ?_);refine OB (wpAny_newObj_type ?_ (by size_fits));refine OC ⟨_,rfl,"set_iterator",_,⟨_,OM _ rfl,rfl⟩,F.aQ.lookup,?_⟩;have e1:∀o,(s.heap.push o).objs.size=s.heap.objs.size+1:=fun o=>Rl _ _
  refine hQ _ s.heap.objs.size (.ref s.heap.objs.size) l _ _ dr (by rw [e1];omega) (OR _) (by rw [e1];omega) (fun b o q=>OJ _ (OJ _ q)) ⟨_,OM _ rfl,rfl,rfl⟩ (b7.push (b7.push hS _) _) (.inr (.inl ⟨h1,rfl,⟨_,OJ _ (OM _ rfl),rfl,0,rfl⟩,hp,rfl⟩))
 ·rw [if_neg hdr]
  refine OB (OC ?_);refine OB (KG hS ?_);refine OB (wpAny_newObj_type ?_ (by size_fits));refine OC ⟨_,rfl,"set_iterator",_,⟨_,OM _ rfl,rfl⟩,F.aQ.lookup,?_⟩;cases h1:w.params.followText "set-order" with
  | true=>exact hQ s.heap.objs.size (s.heap.objs.size+1) (.int 0 0) [] _ _ s.drawn (OR _) (by omega) (by omega) (fun b o q=>OJ _ q) ⟨_,OM _ rfl,rfl,rfl⟩ (b7.push hS _) (.inl ⟨h1,rfl,rfl⟩)
  | false =>
   rw [h1] at hl hdr;refine hQ s.heap.objs.size (s.heap.objs.size+1) (.int 0 0) [] _ _ s.drawn (OR _) (by omega) (by omega) (fun b o q=>OJ _ q) ⟨_,OM _ rfl,rfl,rfl⟩ (b7.push hS _) (.inr (.inr ⟨h1,hl,?_,rfl,.inl ⟨rfl,rfl⟩⟩));rcases TN 1 es.size with q|q
   ·exfalso
    apply hdr;rw [hp (by omega)];simp [q]
   ·exact q
end
end br
namespace br
open PySem PySem.W PyProof.Rows
section
variable {prog:Pp} {w:Qn} {A:Pm} {E:OE->OH->Prop} {s:OH} {a:Pf} {ep:Nat} {es:Array (Int × OE)} {t:Px}
theorem vr {Q:Bool->OH->Prop} (hT:s.TypeIs (.ref a) "set") (h:Q false s):O3 (model prog w) A (Tq (.ref a)) Q E s:=by
 unfold Tq;refine OB (wpAny_specialOf hT PySem.F.slot_set_len.lookup ?_);generalize Dy:("set.__len__":String)=Mw
 wp_delta
 rw [show splitId Mw=some ("set","__len__") from by subst Dy;decide +kernel];subst Dy;refine OB (wpAny_isInstance (T:="set") (b:=true) hT (by rw [isSubtype_type];kernel_rfl) ?_);refine wpAny_ite_split (fun hab=>absurd hab (by decide)) (fun _=>?_);refine wpAny_ite_split (fun _=>?_) (fun hab=>absurd (by decide +kernel) hab);refine OB (wpAny_typeOf hT ?_);exact OC h
theorem vt {ord:List OE} {acc:Array OE} (h:ItemsOf (fun i v=>ord[i]?=some v) acc ord.length):acc.toList=ord:=by
 apply T3 fun j=>?_
 rcases TN j acc.size with hj|hj
 ·have e:acc[j]?=some acc[j]:=OO hj
  rw [h.2 j _ e,QP,e]
 ·rw [Rf (by simpa using hj),Rf (by have:=h.1;omega)]
theorem qa {R:Result->OH->Prop} (hh:A.handled=none) (nR:m9 t (es.map (·.1))) (hA:b7 s.heap a es ep t) (hl:t.led = !w.params.followText "set-order") (hp:1<=es.size->t.plain=false) (hsz:es.size<1000)
  (S:Pf) (KH:S≠a) (res:OE) (c₀:Nat) (hS:s.heap.get? S=some { cls:=.type "list",data:=.seq #[] c₀ })
  (hR:∀h' tk dr fu c',(∀b o,b≠S->s.heap.get? b=some o->h'.get? b=some o)->h'.get? S=some { cls:=.type "list",dict:=none,data:=.seq fu c',slots:=#[] }->fu.toList.Perm (es.toList.map (·.2))->R (.ok (.ret res)) { s with heap:=h',toks:=tk,drawn:=dr }) :
  O3 (model prog w) A.in1 (RQ (.ref S) (.ref a) res)
   (fun fin s'=>match fin with|.done f=>R (.ok f) s'|.again c'=>c'.quiet=true/\codeAny (model prog w) A c' R s') (fun e s'=>R (.error e) s') s:=by
 have hn:es.size<=O6:=by rw [P9];omega
 have E4:s.TypeIs (.ref a) "set":=let ⟨o,ho,hc,_⟩:=hA;⟨o,ho,hc⟩
 unfold RQ;refine OB (wpAny_typeOf (T:="set") E4 ?_);have h1:Ug (.ref S) (.ref a)=false:=by simp [Ug,KH]
 have h2:(Ue "set" == Ue "list")=false:=by decide
 have h3:(Ue "set" == Ue "tuple")=false:=by decide
 simp only [h1,h2,h3,Bool.or_false,OQ,if_false];refine OB (yJ nR hA hl hp hsz fun I T first pl ord h1 dr hI hT E1 kp hit E5 W=>?_);have KI:=O4 hS
 have Iu:S≠I:=O8 (O5 KI hI);have Mx:S≠T:=O8 (O5 KI hT)
 have hIa:I≠a:=by
  obtain⟨o,ho,_⟩:=hA;exact QX (O5 (O4 ho) hI)
 have KJ:=tf (prog:=prog) (A:=A.in1) (w:=w) (ep:=ep) (pl:=pl) (ord:=ord) (T:=T) hh nR E1 hIa;have kE:=mC (s:={ s with heap:=h1 }) W
 have My:=vo (s:={ s with heap:=h1 }) W;have hS1:=kp S _ hS
 have KL:S∉[I,a,T]:=by simp only [OS,List.not_mem_nil,or_false,not_or];exact⟨Iu,KH,Mx⟩
 have key:∀(h:Heap) (c₁ tk:Nat),(∃first,dE h I a first 0 es.size ep/\b7 h a es ep t/\Way w h a es ep t pl T ord 0 first)->(∀b o,b≠S->s.heap.get? b=some o->h.get? b=some o) ->
   h.get? S=some { cls:=.type "list",data:=.seq #[] c₁ }->codeAny (model prog w) A (.builtin "list.extend.loop" ⟨[.ref S,.ref I,res],[]⟩) R { s with heap:=h,toks:=tk,drawn:=dr }:=by
  intro h c₁ tk tX hk Iw;refine codeAny_extend_loopS KJ.toS hn S KL res es.size 0 _ #[] c₁ rfl (Pg _) tX Iw (ItemsOf.nil _) fun s' fu c' hm hS' jm=>?_
  rw [Moved.eq_with hm];refine hR s'.heap s'.toks dr fu c' (fun b o hb e=>hm.heap b o (fun hmem=>?_) (hk b o hb e)) hS' ?_
  ·rcases OS.mp hmem with e'|hmem
   ·exact hb e'
   ·exact absurd (O4 e) (by rw [OK.mp hmem];exact Nat.not_lt.mpr hI)
  ·rw [<- kE] at jm
   rw [vt jm];exact My
 refine OB (wpAny_holding (vr (s:={ s with heap:=h1,drawn:=dr }) (let ⟨o,ho,hc,_⟩:=E5;⟨o,ho,hc⟩) ?_));refine wpAny_ite_split (fun _=>?_) (fun _=>OC ⟨plainId_quiet TY _,key _ c₀ s.toks ⟨first,hit,E5,W⟩ (fun b o _ e=>kp b o e) hS1⟩);refine OB (wpAny_rule ?_);refine OB ?_;show O3 _ _ (updateSeq S (·.push .none) >>= fun _=>updateSeq S (·.pop)) _ _ _
 refine OB (wpAny_updateSeq (s:={ s with heap:=h1,drawn:=dr }) hS1 rfl ?_);have KN:=Qi (Qx (·.push P7)) hS1 rfl
 refine wpAny_updateSeq (s:={ s with heap:=h1.update S (Qx (·.push P7)),drawn:=dr }) (hz:=by seq_fits) KN rfl ?_;have Mz:=Qi (Qx (·.pop)) KN rfl
 refine OC ⟨plainId_quiet TY _,key _ _ s.toks ?_ (fun b o hb e=>?_) Mz⟩
 ·refine KJ.frame 0 _ _ ⟨first,hit,E5,W⟩ fun b hb o e=>?_
  have KO:b≠S:=fun h=>KL (h ▸ hb)
  exact(Po _ _ (Qz KO)).trans ((Po _ _ (Qz KO)).trans e)
 ·exact(Po _ _ (Qz hb)).trans ((Po _ _ (Qz hb)).trans (kp b o e))
theorem nS {R:List OE->OH->Prop} {ld:Bool} (hh:A.handled=none) (hS:SI ld s.heap a es) (hl:ld = !w.params.followText "set-order") (hsz:es.size<1000)
  (h:∀h' tk dr acc,(∀b o,s.heap.get? b=some o->h'.get? b=some o)->acc.Perm (es.toList.map (·.2))->R acc { s with heap:=h',toks:=tk,drawn:=dr }):O3 (model prog w) A (collect (.ref a)) R E s:=by
 obtain⟨oa,ep,t,rO,hex,oW,nR,_,_,_,_,hL,hP⟩:=hS;have hA:b7 s.heap a es ep t:=⟨oa,rO,hex.1,oW⟩
 unfold collect;refine OB (wpAny_runValue (codeAny_builtin entry_proto_collect' ?_));rw [Pw PySem.F.plain_proto_collect _];show O3 _ A.in1 (newList [] >>= fun l=>again (.builtin "list.__iadd__" ⟨[l,.ref a],[]⟩)) _ _ s
 refine OB (wpAny_newObj_type ?_);refine OC ⟨plainId_quiet Ur _,codeAny_builtin entry_list_iadd' ?_⟩;rw [Pw Ur _];have Iw:(s.heap.push { cls:=.type "list",data:=.seq ([]:List OE).toArray }).get? s.heap.objs.size=some { cls:=.type "list",data:=.seq #[] }:=OM _ rfl
 show O3 _ A.in1 (RQ (.ref s.heap.objs.size) (.ref a) (.ref s.heap.objs.size)) _ _ _;have key:=qa (A:=A) (w:=w) (prog:=prog) (s:={ s with heap:=s.heap.push { cls:=.type "list",data:=.seq ([]:List OE).toArray } })
  (R:=fun(q:Result) (s':OH)=>∃(h':Heap) (tk:Nat) (dr:_) (fu:Array OE) (c':Nat),q=.ok (.ret (.ref s.heap.objs.size))/\s'={ s with heap:=h',toks:=tk,drawn:=dr } /\
   (∀b o,s.heap.get? b=some o->h'.get? b=some o)/\h'.get? s.heap.objs.size=some { cls:=.type "list",dict:=none,data:=.seq fu c',slots:=#[] }/\fu.toList.Perm (es.toList.map (·.2)))
  hh nR (b7.push hA _) (hL.trans hl) hP hsz s.heap.objs.size (QX (O4 rO)) (.ref s.heap.objs.size) 0 Iw
  (fun h' tk dr fu c' hk hS' jm=>⟨h',tk,dr,fu,c',rfl,rfl,fun b o e=>hk b o (O8 (O4 e)) (OJ _ e),hS',jm⟩)
 refine wpAny_mono key (fun fin s' x=>?_) fun e s' x=>?_
 ·cases fin with
  | done f =>
   obtain⟨h',tk,dr,fu,c',e,rfl,hk,hS',jm⟩:=x;cases e;show O3 _ A (load s.heap.objs.size >>= _) _ _ _
   refine OB (wpAny_load hS' ?_);exact OC (h h' tk dr _ hk jm)
  | again c₁ =>
   refine⟨x.1,codeAny_mono x.2 fun q s₂ y=>?_⟩;obtain⟨h',tk,dr,fu,c',rfl,rfl,hk,hS',jm⟩:=y;show O3 _ A (load s.heap.objs.size >>= _) _ _ _
   refine OB (wpAny_load hS' ?_);exact OC (h h' tk dr _ hk jm)
 ·obtain⟨_,_,_,_,_,e',_⟩:=x
  cases e'
end
end br
namespace M
open PySem PySem.Spec PyProof.Rows L2 br
section
variable {P:Pp} {w:Qn} {A:Pm} {E:OE->OH->Prop}
theorem bH.vz:∀(n m:Nat) {A:Pm} {E:OE->OH->Prop} {s:OH} {t:T} {u:OE},kd n t=true->n<=m->bH s.heap t u->O3 (model P w) A (ofAClassStatement m u) (fun b s'=>b=false/\s'=s) E s
 | 0,_,_,_,_,t,_,hk,_,_=>(Hi hk).elim
 | n+1,m,A,E,s,t,u,hk,hm,k=>by
  cases k with
  | bl=>cases hk
  | int i t=>cases m with
   | zero=>omega
   | succ m=>exact OC ⟨rfl,rfl⟩
  | str z t=>cases m with
   | zero=>omega
   | succ m=>exact OC ⟨rfl,rfl⟩
  | tup ho hc hd hl hi =>
   rename_i a o its nn xs;have E4:s.TypeIs (.ref a) "tuple":=⟨o,ho,hc⟩
   obtain⟨m,rfl⟩:∃k,m=k+1:=⟨m - 1,by omega⟩;unfold ofAClassStatement;refine OB (wpAny_typeOf E4 ?_);dsimp only;simp only [beq_self_eq_true,if_true];refine OB (OC ?_);simp only [RB,OQ,if_false];refine OB (wpAny_seqItems ho hd ?_);dsimp only;refine OB ?_;show O3 _ _ (forIn its _ _) _ _ s
   rw [<- Si];refine wpAny_forIn_list _ (fun rest r s'=>r.1=none/\s'=s/\∀v∈rest,v∈its) _ ?_ ?_ _ _ ⟨rfl,rfl,fun v hv=>by simpa using hv⟩
   ·rintro v rest r s' ⟨hr,rfl,hall⟩
    obtain⟨i,sP,rfl⟩:=Rp (hall v OI);have ex:=Ge9 (l:=xs) (i:=i) (by omega)
    refine OB (wpAny_mono (bH.vz n m (gW hk ex) (by omega) (hi i _ _ ex (OO sP))) (fun b tV hb=>?_) fun _ _ e=>e);obtain⟨rfl,rfl⟩:=hb;simp only [OQ,if_false];exact OC ⟨rfl,rfl,fun u ip=>hall u (OG _ ip)⟩
   ·rintro⟨r1,r2⟩ s' ⟨hr,rfl,_⟩
    simp only at hr;subst hr;exact OC ⟨rfl,rfl⟩
theorem bH.E6 {s:OH} {t:T} {u:OE} {Q:Bool->OH->Prop} (hh:m6 t=true) (k:bH s.heap t u) (q:Q false s):O3 (model P w) A (hashByValue 8 u) Q E s:=by
 unfold m6 at hh;split at hh
 ·rename_i z r
  cases k with
  | tup ho hc hd hl hi =>
   rename_i a o its nn;have E4:s.TypeIs (.ref a) "tuple":=⟨o,ho,hc⟩
   unfold hashByValue;refine OB (wpAny_specialOf E4 RK.lookup ?_);show O3 _ _ (seqItems? (.ref a) >>= _) _ _ s
   refine OB (wpAny_seqItems ho hd ?_);refine OB ?_;have pO:0<its.size:=by simp at hl;omega
   have k0:=hi 0 (.str z) its[0] rfl (OO pO);obtain⟨l⟩:=its;cases l with
   | nil=>simp at pO
   | cons v vs =>
    have k0:bH s.heap (.str z) v:=k0;cases k0;show O3 _ _ (forIn (RM _ _::vs).toArray _ _) _ _ s
    rw [<- Si];simp only [List.forIn_cons];exact OB (OB (OC (by simp only [SU,if_true];exact OC (OC (OC q)))))
 ·cases hh
theorem bH.seen {n:Nat} (hn:n<=8) {s:OH} {t:T} {u:OE} {Q:Bool->OH->Prop} (hk:kd n t=true) (k:bH s.heap t u) :
  ∀(stored:List OE),(∀v∈stored,∃b,kd n b=true/\bH s.heap b v)->Q false s->O3 (model P w) A (searchCouldBeSeen u stored) Q E s:=by
 intro stored tX q;unfold searchCouldBeSeen;refine OB ?_;refine wpAny_forIn_list _ (fun rest rr s'=>s'=s/\rr.1=none/\∀v∈rest,v∈stored) _ ?_ ?_ _ _ ⟨rfl,rfl,fun v hv=>hv⟩
 ·rintro v rest rr s' ⟨rfl,hr,hm⟩
  obtain⟨b,hb,k2⟩:=tX v (hm v (by simp));dsimp only;split;all_goals split
  any_goals exact OC ⟨rfl,rfl,fun z hz=>hm z (by simp [hz])⟩
  all_goals
   refine OB (wpAny_mono (bH.quiet n 8 (jl n hk) hn k) (fun b tV hb=>?_) fun _ _ e=>e);obtain⟨rfl,rfl⟩:=hb;simp only [RB,OQ,if_false];refine OB (wpAny_mono (bH.quiet n 8 (jl n hb) hn k2) (fun b tV hb=>?_) fun _ _ e=>e);obtain⟨rfl,rfl⟩:=hb;simp only [RB,OQ,if_false];refine OB (wpAny_mono (bH.vz n 8 hk hn k) (fun b tV hb=>?_) fun _ _ e=>e);obtain⟨rfl,rfl⟩:=hb;simp only [OQ,if_false];refine OB (wpAny_mono (bH.vz n 8 hb hn k2) (fun b tV hb=>?_) fun _ _ e=>e);obtain⟨rfl,rfl⟩:=hb;simp only [OQ,if_false];exact OC ⟨rfl,rfl,fun z hz=>hm z (by simp [hz])⟩
 ·rintro⟨r1,r2⟩ s' ⟨rfl,hr,_⟩
  simp only at hr;subst hr;exact OC q
end
noncomputable def DT (w:Qn) (g:G) (es:List (Int × OE)) (tr:List T):Prop:=Paired (fun(e:Int × OE) (t:T)=>e.1=hT w t/\kd 6 t=true/\RT g none t e.2) es tr
theorem iF {α β:Type} {F:α->β->Prop} {l l':List α} (p:l'.Perm l):∀{m:List β},Paired F l m->∃m',m'.Perm m/\Paired F l' m':=by
 induction p with
 | nil=>intro m h;exact⟨m,.refl _,h⟩
 | cons x _ ih =>
  intro m h;cases h with
  | cons r t=>obtain⟨m',h1,h2⟩:=ih t;exact⟨_::m',h1.cons _,.cons r h2⟩
 | swap x y l =>
  intro m h;cases h with
  | cons r t=>cases t with
   | cons r2 t2=>exact⟨_,.swap _ _ _,.cons r2 (.cons r t2)⟩
 | trans _ _ Iy Iz =>
  intro m h;obtain⟨m1,a1,a2⟩:=Iz h;obtain⟨m2,b1,b2⟩:=Iy a2;exact⟨m2,b1.trans a1,b2⟩
theorem yK {l:Bool} {h h':Heap} {a b:Pf} {es:Array (Int × OE)} (S:br.SI l h a es) (hs:Rd b h h') (hab:a≠b):br.SI l h' a es:=by
 obtain⟨o,ep,t,ho,r⟩:=S;exact⟨o,ep,t,(hs.2 a hab).trans ho,r⟩
theorem fM:entryFor table "set.update.loop"=some Builtin.«set.update.loop»:=entryFor_of_tree (by kernel_rfl)
theorem dB:plainId "set.update.loop"=true:=by decide +kernel
theorem vA {h:Heap} {a:Pf} {ld:Bool} (e:h.get? a=some { cls:=.type "set",dict:=none,data:=.set #[] 0 (.fresh 0 0 ld) }):br.SI ld h a #[] :=
 ⟨_,0,.fresh 0 0 ld,e,⟨rfl,rfl,rfl⟩,rfl,⟨⟨fun i j _ hj=>absurd hj (by simp [R6]),rfl⟩,by simp [R6],fun i hi=>absurd hi (by simp [R6]),by simp,⟨3,rfl⟩,fun i hi=>absurd hi (by simp)⟩,by simp [R6],by simp [R6],by simp [R6],fun i hi=>absurd hi (by simp),rfl,fun z=>absurd z (by simp)⟩
section
variable {X:Cx} {pins:ar} {φ:Fr} {g:G} {L L':Live} {s:OH} {a it l:Pf} {es:Array (Int × OE)} {tr ts:List T} {its:List OE} {t:T} {u:OE} {ld:Bool}
theorem IA {A:Pm} {E:OE->OH->Prop} {Q:Bool->OH->Prop} (I:Inv X pins φ g L s) (hu:A.units+10<cLine) (hS:br.SI ld s.heap a es) (hE:DT X.w g es.toList tr) (hs:es.size<1000) (hd:tr.Nodup) (hk:kd 6 t=true) (hh:m6 t=true) (r:RT g none t u)
  (hQ:∀b h' tk eH tY,Rd a s.heap h'\/h'=s.heap->br.SI ld h' a eH->DT X.w g eH.toList tY->tY.Nodup->tY.length<=tr.length+1->(∀x,x∈tY↔x=t\/x∈tr)->Q b { s with heap:=h',toks:=tk }):O3 (model X.prog X.w) A (setAdd a u) Q E s:=by
 classical
 have hl:=OX hE;have hl':es.size=tr.length:=by simpa using hl
 have k:=I.DK 6 hk r;unfold setAdd;refine wpAny_holding (OB ?_);refine bH.hash 6 (jl 6 hk) (by omega) k ?_;generalize s.toks+dr t=tk;have I':Inv X pins φ g L { s with toks:=tk }:=I.tok tk
 have k':=I'.DK 6 hk r;have at_:∀i (hi:i<es.size),(es[i]).1=hT X.w (tr[i]'(by omega))/\kd 6 (tr[i]'(by omega))=true/\RT g none (tr[i]'(by omega)) (es[i]).2:=fun i hi=>by
  have z:=oV hE i _ _ (Ge9 (by simpa using hi)) (Ge9 (by omega));simpa using z
 refine B3 (s:={ s with toks:=tk }) (eqv:=fun i=>decide (tr.getD i (.int 0)=t)) hS ?_ hs (fun i hi _=>?_) (fun Q' q=>bH.seen (n:=6) (by omega) hk k' _ (fun v hv=>?_) q) (fun Q' q=>bH.E6 hh k' q) (fun hex=>?_) fun gq h' eH uo hS' hp=>?_
 ·unfold m6 at hh
  split at hh
  ·cases r with
   | tup=>exact⟨_,rfl⟩
  ·cases hh
 ·obtain⟨_,h2,h3⟩:=at_ i hi
  have e:tr.getD i (.int 0)=tr[i]'(by omega):=by simp [show i<tr.length by omega]
  show QG A _ _ _ (decide (tr.getD i (.int 0)=t));rw [e];exact bH.eq 6 h2 hk (by omega) (I'.DK 6 h2 h3) k'
 ·obtain⟨e,he,rfl⟩:=OT.mp hv
  rw [S8] at he;have he:=(Array.mem_filter.mp he).1
  obtain⟨i,hi,rfl⟩:=Rp he;obtain⟨_,h2,h3⟩:=at_ i hi
  exact⟨_,h2,I'.DK 6 h2 h3⟩
 ·obtain⟨i,hi,e1,e2⟩:=hex
  have e:tr.getD i (.int 0)=tr[i]'(by omega):=by simp [show i<tr.length by omega]
  have e2:=of_decide_eq_true e2;rw [e] at e2;refine hQ false s.heap tk es tr (.inr rfl) hS hE hd (RF _) fun x=>⟨.inr,fun z=>?_⟩
  rcases z with rfl|z
  ·rw [<- e2];exact OV _
  ·exact z
 ·have hE':DT X.w g ((hT X.w t,u)::es.toList) (t::tr):=.cons ⟨rfl,hk,r⟩ hE
  obtain⟨tY,p1,p2⟩:=iF hp hE';have IB:t∉tr:=fun hb=>by
   obtain⟨i,hi,e⟩:=QI.mp hb;have hi':i<es.size:=by omega
   refine gq ⟨i,hi',?_,?_⟩
   ·rw [(at_ i hi').1,e]
   ·exact decide_eq_true (by simp [hi,e])
  exact hQ true h' tk eH tY (.inl uo) hS' p2 (p1.nodup_iff.mpr (Qc.mpr ⟨IB,hd⟩)) (TM p1.length_eq) fun x=>by rw [p1.mem_iff,OS]
theorem vB {A:Pm} {R:Result->OH->Prop} (I:Inv X pins φ g L s) (hu:A.units+12<cLine) (hh:A.handled=none) (hl:s.heap.IsList l its.toArray) (rv:bz g ts its) (hlen:its.length<900) (MA:∀t∈ts,kd 6 t=true/\m6 t=true)
  (ha:s.heap.objs.size<=a) (Ca:s.heap.objs.size<=it) (hne:a≠it)
  (fin:∀h' tk es tr,(∀b o,s.heap.get? b=some o->h'.get? b=some o)->br.SI ld h' a es->DT X.w g es.toList tr->tr.Nodup->(∀x,x∈tr↔x∈ts)->R (.ok (.ret .none)) { s with heap:=h',toks:=tk }) :
  ∀(k i:Nat) (h':Heap) (tk:Nat) (es:Array (Int × OE)) (tr:List T),its.length - i=k->i<=its.length->(∀b o,s.heap.get? b=some o->h'.get? b=some o)->h'.IsListIter it l i->br.SI ld h' a es->DT X.w g es.toList tr->tr.Nodup->tr.length<=i->(∀x,x∈tr↔x∈ts.take i) ->
   O3 (model X.prog X.w) A.in1 (Builtin.«set.update.loop» ⟨[.ref a,.ref it],[]⟩) (fun fin s'=>match fin with|.done f=>R (.ok f) s'|.again c'=>c'.quiet=true/\codeAny (model X.prog X.w) A c' R s') (fun e s'=>R (.error e) s') { s with heap:=h',toks:=tk }:=by
 have E7:=OX rv;have lt:∀b o,s.heap.get? b=some o->b≠a/\b≠it:=fun b o q =>
  ⟨O8 (O5 (O4 q) ha),O8 (O5 (O4 q) Ca)⟩
 obtain⟨ol,kE,E8⟩:=id hl;intro k;induction k with
 | zero =>
  intro i h' tk es tr hk hi kp hit hS hE hd hn hp;obtain rfl:i=its.length:=by omega
  unfold Builtin.«set.update.loop»;dsimp only;refine OB (wpAny_pyNext_list_end (s:={ s with heap:=h',toks:=tk }) (A:=A.in1) hh hit (show h'.IsList l its.toArray from⟨ol,kp _ _ kE,E8⟩) (by simp) fun h2 vC=>?_);dsimp only;refine OC ?_;refine fin h2 tk es tr (fun b o q=>vC b o (lt b o q).2 (kp b o q)) ?_ hE hd (by rw [<- E7,UB] at hp;exact hp);obtain⟨o,ep,t,ho,r⟩:=hS;exact⟨o,ep,t,vC a o hne ho,r⟩
 | succ k ih =>
  intro i h' tk es tr hk hi kp hit hS hE hd hn hp;have sP:i<its.length:=by omega
  have Cb:i<ts.length:=by omega
  unfold Builtin.«set.update.loop»;dsimp only;refine OB (wpAny_pyNext_list_item (s:={ s with heap:=h',toks:=tk }) (x:=its[i]) hit (show h'.IsList l its.toArray from⟨ol,kp _ _ kE,E8⟩) (by simp [sP]) fun h1 rP uo=>?_);dsimp only;have E9:∀b o,s.heap.get? b=some o->h1.get? b=some o:=fun b o q=>(uo.2 b (lt b o q).2).trans (kp b o q)
  have I1:Inv X pins φ g L { s with heap:=h1,toks:=tk }:=I.kept E9;have hS1:br.SI ld h1 a es:=yK hS uo hne
  have ht:=MA _ (OV Cb);have Fb:es.size<1000:=by
   have z1:=OX hE;have z4:es.toList.length=es.size:=by simp
   omega
  refine OB (wpAny_holding (IA (s:={ s with heap:=h1,toks:=tk }) I1 (by show A.units+1+10<cLine;omega) hS1 hE Fb hd ht.1 ht.2 (oV rv i _ _ (Ge9 Cb) (Ge9 sP)) fun bb h2 Fd eH tY KP hS2 MB hd2 xW ro=>?_));have Fe:∀b o,s.heap.get? b=some o->h2.get? b=some o:=fun b o q=>by
   rcases KP with th|rfl
   ·exact(th.2 b (lt b o q).1).trans (E9 b o q)
   ·exact E9 b o q
  have sQ:h2.IsListIter it l (i+1):=by
   rcases KP with th|rfl
   ·obtain⟨o,ho,r⟩:=rP
    exact⟨o,(th.2 it (Qz hne)).trans ho,r⟩
   ·exact rP
  refine OC ?_;refine⟨plainId_quiet dB _,codeAny_builtin fM ?_⟩;rw [Pw dB _];have hmem:∀x,x∈tY↔x∈ts.take (i+1):=fun x=>by
   rw [ro,Ss Cb,OU,OK,hp,or_comm]
  exact ih (i+1) h2 Fd eH tY (by omega) (by omega) Fe sQ hS2 MB hd2 (by omega) hmem
theorem i3 {x:T}:∀{l:List T},x∈m7 l↔x∈l
 | []=>Vm
 | y::l=>by
  unfold m7;split
  ·rename_i h
   rw [i3,OS];exact⟨.inr,fun z=>z.elim (fun e=>by rw [e];exact h) id⟩
  ·rw [OS,OS,i3]
theorem qb:∀l:List T,(m7 l).Nodup
 | []=>.nil
 | y::l=>by
  unfold m7;split
  ·exact qb l
  ·rename_i h
   exact Qc.mpr ⟨fun z=>h (i3.mp z),qb l⟩
theorem rQ:∀l:List T,(m7 l).length<=l.length
 | []=>OR _
 | y::l=>by
  have:=rQ l;unfold m7;split <;> simp <;> omega
theorem nU {α:Type}:∀{a b:List α},a.Nodup->b.Nodup->(∀x,x∈a↔x∈b)->a.Perm b:=fun ha hb h=>(Q8 ha hb).mpr h
theorem Inv.MC (I:Inv X pins φ g L s) (dr:_):Inv X pins φ g L { s with drawn:=dr }:=⟨I.ok,I.os,I.bare,I.base,I.loc,I.cell,I.free,I.jc,I.pin,I.hok,I.len,I.rel,I.gB,I.gm,I.gw⟩
theorem rR:∀{es:List (Int × OE)} {tr:List T},DT w' g es tr->bz g tr (es.map (·.2))
 | _,_,.nil=>.nil
 | _,_,.cons h t=>.cons h.2.2 (rR t)
theorem nV:∀{us:List OE} {tr:List T},bz g tr us->Paired (fun u t=>RT g none t u) us tr
 | _,_,.nil=>.nil
 | _,_,.cons h t=>.cons h (nV t)
theorem nW:∀{us:List OE} {tr:List T},Paired (fun u t=>RT g none t u) us tr->bz g tr us
 | _,_,.nil=>.nil
 | _,_,.cons h t=>.cons h (nW t)
theorem qc {a b:List T} (h:bE b) (hl:a.length<=b.length) (hm:∀x∈a,x∈b):bE a:=by
 obtain⟨h1,h2,h3,h4⟩:=h;refine⟨by omega,OD.mpr fun x hx=>OD.mp h2 x (hm x hx),?_,OD.mpr fun x hx=>OD.mpr fun y hy=>OD.mp (OD.mp h4 x (hm x hx)) y (hm y hy)⟩;rcases h3 with h3|h3
 ·exact .inl (OD.mpr fun x hx=>OD.mp h3 x (hm x hx))
 ·exact .inr (OD.mpr fun x hx=>OD.mp h3 x (hm x hx))
theorem IC {x y:T} (hx:kd 8 x=true) (hy:kd 8 y=true) (h:ltN 8 y x=false):x=y\/ltN 8 x y=true:=by
 by_cases e:x=y
 ·exact .inl e
 ·rcases g6 8 _ _ hx hy e with q|q
  ·exact .inr q
  ·rw [h] at q;cases q
theorem Af (x:T) (hx:kd 8 x=true):∀l:List T,(∀y∈l,kd 8 y=true)->f9 l->∃l',l'.Perm (x::l)/\f9 l'
 | [],_,_=>⟨[x],.refl _,by simp [f9]⟩
 | y::l,hk,hr=>by
  have hy:=hk y OI;have hr':=QS.mp hr
  cases e:ltN 8 y x with
  | false =>
   refine⟨x::y::l,.refl _,QS.mpr ⟨fun z hz=>?_,hr⟩⟩;rcases OS.mp hz with rfl|hz
   ·exact e
   ·have h1:=hr'.1 z hz
    rcases IC hx hy e with rfl|q
    ·exact h1
    ·cases e2:ltN 8 z x with
     | false=>rfl
     | true=>rw [cD 8 _ _ _ e2 q] at h1;cases h1
  | true =>
   obtain⟨l',p,r⟩:=Af x hx l (fun z hz=>hk z (OG _ hz)) hr'.2;refine⟨y::l',(p.cons y).trans (.swap _ _ _),QS.mpr ⟨fun z hz=>?_,r⟩⟩;rcases OS.mp (p.mem_iff.mp hz) with rfl|hz
   ·cases e2:ltN 8 z y with
    | false=>rfl
    | true=>have:=cD 8 _ _ _ e e2;rw [iZ] at this;cases this
   ·exact hr'.1 z hz
theorem Ag:∀l:List T,(∀y∈l,kd 8 y=true)->∃l',l'.Perm l/\f9 l'
 | [],_=>⟨[],.refl _,SO⟩
 | x::l,h=>by
  obtain⟨l1,p1,r1⟩:=Ag l fun y hy=>h y (OG _ hy)
  obtain⟨l2,p2,r2⟩:=Af x (h x OI) l1 (fun y hy=>h y (OG _ (p1.mem_iff.mp hy))) r1;exact⟨l2,p2.trans (p1.cons x),r2⟩
theorem vD {a b:List T} (hk:a.all (kd 8)=true) (p:a.Perm b):eB a=eB b:=by
 obtain⟨l',p',h⟩:=Ag a (OD.mp hk);rw [ju hk p' h,ju (OD.mpr fun x hx=>OD.mp hk x (p.mem_iff.mpr hx)) (p'.trans p) h]
theorem vE {fz:Bool} {w:T} (hu:X.A.units+20<cLine) (I:Inv X pins φ g L s) (hl:s.heap.IsList l its.toArray) (rv:bz g ts its) (ok:bE ts) (h6:ts.all (kd 6)=true) (hS:ts.all m6=true) (h:eE fz (eB (m7 ts)) L=.ok w L') :
  O3 (model X.prog X.w) X.A (call (.type "set") [.ref l]) (fun u s'=>O3 (model X.prog X.w) X.A (call (.builtin "sorted") [u]) (EP X pins φ g w L') F0 s') F0 s:=by
 have hlen:=OX rv;have KC:=ok.1
 refine jC (led:=!X.w.params.followText "set-order") hl rfl ?_;refine codeAny_builtin fM ?_;rw [Pw dB _];have e1:(s.heap.push { cls:=.type "set",dict:=none,data:=.set #[] 0 (.fresh 0 0 (!X.w.params.followText "set-order")) }).get? s.heap.objs.size=some { cls:=.type "set",dict:=none,data:=.set #[] 0 (.fresh 0 0 (!X.w.params.followText "set-order")) }:=OM _ rfl
 have e2:(s.heap.push { cls:=.type "set",dict:=none,data:=.set #[] 0 (.fresh 0 0 (!X.w.params.followText "set-order")) }).objs.size=s.heap.objs.size+1:=Rl _ _;have e3:((s.heap.push { cls:=.type "set",dict:=none,data:=.set #[] 0 (.fresh 0 0 (!X.w.params.followText "set-order")) }).push { cls:=.type "list_iterator",data:=.fields #[.ref l,.int 0 0] }).get? (s.heap.objs.size+1)=some { cls:=.type "list_iterator",data:=.fields #[.ref l,.int 0 0] }:=by
  rw [<- e2];exact OM _ rfl
 refine vB (ld:=!X.w.params.followText "set-order") (l:=l) (ts:=ts) (its:=its) I (A:=X.A.in1.in1) (by show X.A.units+1+1+12<cLine;omega) I.ok.hd hl rv (by omega) (fun t ht=>⟨OD.mp h6 t ht,OD.mp hS t ht⟩) (OR _) (RF _) (O8 (QJ _)) ?_ its.length 0 _ s.toks #[] [] (by omega) (Pg _) (fun b o z=>OJ _ (OJ _ z)) ⟨_,e3,rfl,rfl⟩ (vA (OJ _ e1)) .nil .nil (Pg _) (fun x=>by simp);intro h' tk es tr kp Iu hE hnd hmem;have pn:tr.Perm (m7 ts):=nU hnd (qb ts) fun x=>(hmem x).trans i3.symm
 have nl:(m7 ts).length<=ts.length:=rQ ts;have hsz:es.size<1000:=by
  have z1:=OX hE;have z2:=pn.length_eq
  have z4:es.toList.length=es.size:=by simp
  omega
 refine R5 kind_sorted plain_sorted entry_sorted (args_sorted1 _) ?_;unfold Builtin.«sorted»;refine OB (m:=checkCount "sorted" 1 1 _) (OC ?_);refine OB (nS (A:=X.A.in1) (s:={ s with heap:=h',toks:=tk }) I.ok.hd Iu rfl hsz fun h2 Fd dr acc Fe pa=>?_);have I1:Inv X pins φ g L { s with heap:=h2,toks:=Fd,drawn:=dr }:=(I.kept (t':=Fd) fun b o q=>Fe b o (kp b o q)).MC dr
 obtain⟨tY,p1,p2⟩:=iF pa (nV (rR hE));have rr:=nW p2
 have hl':=OX rr;have vn:=p1.length_eq
 have ID:bE tY:=qc ok (by have:=pn.length_eq;omega) fun x hx=>(hmem x).mp (p1.mem_iff.mp hx)
 have eH:eB tY=eB (m7 ts):=vD ID.2.1 (p1.trans pn);refine OB (wpAny_newList ?_ (by rw [P9];have:=ID.1;omega));have d8:=fun E'=>jx (s:={ s with heap:=h2,toks:=Fd,drawn:=dr }) (E:=E') (A:=X.A.in1.in1) (by show X.A.units+1+1+8<cLine;omega) I1 rr ID (by rw [eH];exact h)
 refine OB (wpAny_holding (wpAny_call_entry slot_list_sort ⟨_,OM _ rfl,rfl⟩ entry_list_sort ?body (args_list_sort _)))
 case body =>
  refine wpAny_mono (d8 _) (fun fin s' z=>?_) fun _ _ z=>z
  obtain⟨rfl,z⟩:=z;exact⟨_,rfl,OC ⟨_,rfl,z⟩⟩
end
end M
namespace M
open PySem PySem.Spec PyProof.Rows
section
variable {X:Cx} {pins:ar} {φ:Fr} {g:G} {L L':Live} {s:OH} {o e:Expr} {m:SE} {fz:Bool} {p q ap pos:Pos}
theorem mD {t:List T} {L1:Live} (h:d5 [m] φ L=.ok t L1):∃x,t=[x]/\m φ L=.ok x L1:=by
 obtain⟨x,L2,e1,h⟩:=R.of h;obtain⟨ts,L3,e2,h⟩:=R.of h;cases e2;cases h;exact⟨x,rfl,e1⟩
theorem vF (hu:X.A.units+20<cLine) (ho:PE X o m) (hb:jh o=true) (uF:(ap.endLine == q.line)=true) (hg:Gl X "sorted") (hm:X.mg "sorted"=none) (hs:aC (.Call (.Attribute o "items" ap) [] [] q)=true):PE X (.Call (.Name "sorted" p) [.Call (.Attribute o "items" ap) [] [] q] [] pos) (aq (iw fz) [m]):=fun {pins φ g L s w L'} I h=>by
 obtain⟨ts,L1,e1,h⟩:=R.of h;obtain⟨t,rfl,e2⟩:=mD e1;refine wpAny_Call_Name_kw (eL I hg hm (by kernel_rfl:bootBuiltins "sorted"=some (.builtin "sorted")) ?_ (by decide) (by decide));refine callWith_builtin1 ?_ (ah hs) (aP rfl);rw [ah hs];refine R9 ?_;refine wpAny_Call_method_late (qP hb) (uy rfl (by decide)) uF rfl (a7 (ho I e2) fun v s1 ⟨g1,l1,I1,r1⟩=>?_);unfold iw at h;obtain⟨pp,vw⟩:=I1.view r1
 ·dsimp only at h
  split at h
  ·rename_i ks ev
   rw [ev] at vw;obtain⟨ok,h⟩:=ao h;obtain⟨a,od,es,ep,rfl,_,_,D⟩:=I1.aO vw;obtain⟨kvs,d1,d2,d3⟩:=Aa D (nL ok.2.2.1);refine⟨"dict","dict.items",Sn,Us,PySem.F.type_dict_items,D.typeIs,fun b e=>?_,?_⟩
   ·cases e;exact⟨od,D.ho,D.hx.2.1⟩
   ·refine UE (aP rfl) (Vg ?_)
    refine call_meetsIn Us D.typeIs PySem.F.entry_dict_items (PySem.F.args_dict_items_1 _) (meets_dict_items (gY X.prog X.w) a D.hs) ⟨⟨kvs,Heap.DictAt.dictOf d1⟩,?_⟩;refine SD ?_;have kp:∀b o,s1.heap.get? b=some o->(s1.heap.push { cls:=.type "dict_items",data:=.fields #[.ref a] }).get? b=some o:=fun b o z=>OJ _ z
    have I2:=I1.kept (t':=s1.toks) kp;have D2:bj X g1 { s1 with heap:=s1.heap.push { cls:=.type "dict_items",data:=.fields #[.ref a] } } ks a od es ep:=⟨kp _ _ D.ho,D.hx,D.hd,D.hz,D.hl,D.hn,D.hm,D.hs,D.hh,D.h1,D.h2⟩
    exact a7 (pR hu I2 D2 (OM _ rfl) ok h) fun _ _ z=>z.le l1
  ·cases h
theorem vG (hu:X.A.units+20<cLine) (ha:PA X [e] (d5 [m])) (hg:Gl X "sorted") (hm:X.mg "sorted"=none) (yr:Gl X "set") (vb:X.mg "set"=none) (A7:[e].all aC=true) (hs:aC (.Call (.Name "set" ap) [e] [] q)=true):PE X (.Call (.Name "sorted" p) [.Call (.Name "set" ap) [e] [] q] [] pos) (aq (jv fz) [m]):=fun {pins φ g L s w L'} I h=>by
 obtain⟨ts,L1,e1,h⟩:=R.of h;obtain⟨t,rfl,e2⟩:=mD e1;refine wpAny_Call_Name_kw (eL I hg hm (by kernel_rfl:bootBuiltins "sorted"=some (.builtin "sorted")) ?_ (by decide) (by decide));refine callWith_builtin1 ?_ (ah hs) (aP rfl);rw [ah hs];refine R9 ?_;refine wpAny_Call_Name_kw (eL I yr vb (by kernel_rfl:bootBuiltins "set"=some (.type "set")) ?_ (by decide) (by decide));refine callWith_type1 (a7 (ha q I e1) fun us s1 ⟨g1,l1,I1,r1⟩=>?_) (ah (by simpa using A7)) (aP rfl);obtain⟨u,rfl,ru⟩:=cY r1;unfold jv at h;dsimp only at h;obtain⟨pp,v⟩:=I1.view ru;split at h
 ·rename_i ys ev
  rw [ev] at v;obtain⟨⟨ok,h6,hS⟩,h⟩:=ao h;obtain⟨a,its,n,rfl,e,rr,hz⟩:=I1.lst v;exact a7 (vE hu I1 (by simpa using aa e) rr ok h6 hS h) fun _ _ z=>SD (a7 z fun _ _ y=>y.le l1)
 ·cases h
end
section
variable {X:Cx}
end
section
variable {P:Pp} {w:Qn} {A:Pm} {E:OE->OH->Prop} {s:OH}
abbrev tI (l:Pf):Obj:={ cls:=.type "tuple_iterator",data:=.fields #[.ref l,.int 0 0] }
end
section
variable {X:Cx}
end
theorem yL {prog:Pp} {w:Qn} {A:Pm} {R:Result->OH->Prop} {s:OH} {l:Pf} {items:Array OE} {n:Nat} {x:OE} (hl:s.heap.get? l=some { cls:=.type "list",dict:=none,data:=.seq items n,slots:=#[] }) (BL:items.size<=O6) {e:Nat->Bool}
  (he:∀i (hi:i<items.size),QG A.in1 s items[i] x (e i)) {j:Nat} (hj:j<items.size) (hit:e j=true) (gq:∀m,m<j->e m=false) (h:R (.ok (.ret .none)) { s with heap:=s.heap.update l (Qx fun xs=>xs.eraseIdxIfInBounds j) }) :
  ∀k i:Nat,j - i=k->i<=j->O3 (model prog w) A.in1 (Builtin.«list.remove.loop» ⟨[.ref l,x,rawInt (i:Int)],[]⟩) (fun fin s'=>match fin with|.done f=>R (.ok f) s'|.again c'=>c'.quiet=true/\codeAny (model prog w) A c' R s') (fun e s'=>R (.error e) s') s:=by
 intro k;induction k with
 | zero =>
  intro i hk gu;obtain⟨hp,g,d,tk,os⟩:=s;obtain rfl:i=j:=by omega
  wp_walk using wpAny_loadPart' hl
  have hi:items[((i:Nat):Int).toNat]?=some items[i]:=by simp [hj]
  rw [hi];refine OB (he i hj prog w _ _ ?_);rw [hit];have hz':(items.eraseIdxIfInBounds i).size<=O6+1:=Pq (MeetsSeq.size_erased items _) (Ub BL)
  wp_walk using (wpAny_updateSeq hl rfl (hz:=BL) (_hz':=hz')),wpAny_loadPart' hl
  simpa using h
 | succ k ih =>
  intro i hk gu;have ih:=ih (i+1) (by omega) (by omega)
  obtain⟨hp,g,d,tk,os⟩:=s;have bT:i<items.size:=by omega
  wp_walk using wpAny_loadPart' hl
  have hi:items[((i:Nat):Int).toNat]?=some items[i]:=by simp [bT]
  have hc:((i:Int)+1)=((i+1:Nat):Int):=by push_cast;rfl
  rw [hi];refine OB (he i bT prog w _ _ ?_);rw [gq i (by omega)]
  wp_walk
  rw [hc];exact⟨plainId_quiet Q9 _,codeAny_builtin TJ (by
   rw [Pw Q9 _];exact ih)⟩
theorem mE (l:Pf) (items:Array OE) (n:Nat) (x:OE):Meets (Builtin.«list.remove» ⟨[.ref l,x],[]⟩) (fun A R s=>∃(e:Nat->Bool) (j:Nat),s.heap.get? l=some { cls:=.type "list",dict:=none,data:=.seq items n,slots:=#[] }/\items.size<=O6 /\
  (∀i (hi:i<items.size),QG A.in1 s items[i] x (e i))/\j<items.size/\e j=true/\(∀m,m<j->e m=false)/\R (.ok (.ret .none)) { s with heap:=s.heap.update l (Qx fun xs=>xs.eraseIdxIfInBounds j) }) :=
 fun prog w A R s ⟨e,j,hl,BL,he,hj,hit,gq,h⟩=>by
  have z:=yL (prog:=prog) (w:=w) (A:=A) (R:=R) hl BL he hj hit gq h _ 0 rfl (Pg _);obtain⟨hp,g,d,tk,os⟩:=s
  wp_walk using wpAny_loadPart' hl
  exact⟨plainId_quiet Q9 _,codeAny_builtin TJ (by
   rw [Pw Q9 _];exact z)⟩
section
variable {X:Cx}
theorem lb {g:G}:∀{xs:List T} {us:List OE} (j:Nat),bz g xs us->bz g (xs.eraseIdx j) (us.eraseIdx j)
 | [],[],_,_=>.nil
 | x::xs,u::us,0,r=>by cases r with|cons _ r=>exact r
 | x::xs,u::us,j+1,r=>by cases r with|cons r1 r2=>exact .cons r1 (lb j r2)
theorem Cc (hu:X.A.units+20<cLine):Bw X "list.remove" u3:=fun {pins φ g L s x xs w L' v us} I rx rv h=>by
 have ip:X.A.in1.units+8<cLine:=by show X.A.units+1+8<cLine;omega
 unfold u3 at h;split at h
 ·split at h
  ·rename_i n t _ ys ea
   obtain⟨⟨h1,h2⟩,h⟩:=ao h;split at h
   ·rename_i j hj
    cases h;obtain⟨u,rfl,ru⟩:=cY rv;obtain⟨a,its,cnt,rfl,e,rr,hl,_⟩:=I.qW rx ea;obtain⟨f,f1,_,f3⟩:=pA I ip h1 ru h2 rr;have Hs:its.size=ys.length:=by simpa using (OX rr).symm
    obtain⟨j1,j2,j3⟩:=PU.mp hj;have at_:∀m (hm:m<its.size),f its[m]=eqT (ys[m]'(by omega)) t:=fun m hm=>f3 m _ _ (Ge9 (by omega)) (by simp [hm])
    refine call_meets Uh ⟨_,e,rfl⟩ PySem.F.entry_list_remove (PySem.F.args_list_remove_2 _ _) (mE a its cnt u) ⟨fun i=>f (its.getD i .none),j,e,by omega,fun i hi=>?_,by omega,?_,fun m hm=>?_,?_⟩
    ·have z:its.getD i .none=its[i]:=by simp [PJ,hi]
     show QG X.A.in1 s its[i] u (f (its.getD i .none));rw [z];exact f1 _ (by simp)
    ·have z:its.getD j .none=its[j]'(by omega):=by simp [PJ,show j<its.size by omega]
     show f (its.getD j .none)=true;rw [z,at_ j (by omega)];exact j2
    ·have hm':m<its.size:=by omega
     have z:its.getD m .none=its[m]:=by simp [PJ,hm']
     show f (its.getD m .none)=false;rw [z,at_ m hm'];simpa using j3 m hm
    ·refine I.ye ea rx e ?_ ?_
     ·have e2:(its.eraseIdxIfInBounds j).toList=its.toList.eraseIdx j:=by
       have:its=its.toList.toArray:=rfl;rw [this,List.eraseIdxIfInBounds_toArray]
      rw [e2];exact lb j rr
     ·have:=List.length_eraseIdx_le ys j
      omega
   ·cases h
  ·cases h
 ·cases h
end
end M
namespace M
open PySem PySem.Spec PyProof.Rows L2 br
section
variable {X:Cx} {pins:ar} {φ:Fr} {g:G} {L L':Live} {s:OH} {e:Expr} {m:SE} {p q ap pos:Pos}
theorem Cd:Bw X "str.isupper" pM:=fun I rx rv h=>by
 unfold pM at h;split at h
 ·cases h
  cases rv;obtain⟨t,rfl,h1⟩:=rx.gD;exact SC.isupper (I.ep (.bl _))
 ·cases h
theorem vH:∀{ts:List T} {ks:List Cs},ts.mapM oU=some ks->ts=ks.map .str
 | [],ks,h=>by cases h;rfl
 | t::ts,ks,h=>by
  rw [R2] at h;cases t with
  | str z =>
   cases e:ts.mapM oU with
   | none=>rw [e] at h;cases h
   | some r=>rw [e] at h;cases h;rw [vH e];rfl
  | _=>cases h
theorem nY {ks:List Cs} {its:List OE} (r:bz g (ks.map .str) its):its.length=ks.length/\∀(i:Nat) (v:OE),its[i]?=some v->∃t,v=RM ⟨(ks.getD i []).toArray⟩ t:=by
 have hl:=OX r;rw [Lm9] at hl;refine⟨hl.symm,fun i v hv=>?_⟩;obtain⟨hi,ev⟩:=OY.mp hv;have hk:i<ks.length:=by omega
 obtain⟨t,rfl,_⟩:=(oV r i (.str ks[i]) v (by simp [hk]) hv).gD;exact⟨t,by simp [Gd9,hk]⟩
theorem ti:dN X (.builtin "min") iE:=fun {_ _ g _ s _ _ _ _} I r h=>by
 unfold iE at h;split at h
 ·split at h
  ·rename_i x ys ev
   split at h
   ·rename_i ks em
    obtain⟨hne,h⟩:=ao h;cases h;obtain⟨u,rfl,ru⟩:=cY r;obtain⟨pp,v⟩:=I.view ru;rw [ev,vH em] at v;obtain⟨a,its,n,rfl,e,rr,hz⟩:=I.lst v;obtain⟨hl,hi⟩:=nY rr;have bT:a<s.heap.objs.size:=O4 e
    have Ff:s.heap.IsList a its:=aa e;have pO:0<ks.length:=Q5.mpr hne
    have hsz:its.size=ks.length:=by simpa using hl
    refine call_min_walk (wpAny_pyIter_list Ff ?_);refine⟨s.heap.objs.size,[s.heap.objs.size,a],[s.heap.objs.size],its.size,_,_,fun i j=>decide (ks.getD i []<ks.getD j []),rfl,Walks.list (A:=X.A.in1) I.ok.hd _ a (O8 bT) its,
     ⟨⟨_,OM _ rfl,rfl,rfl⟩,Ff.push _⟩,fun b hb=>?_,(by rw [hsz];exact pO),nA (fun i=>ks.getD i []) (fun i v hP=>hi i v (by simpa using hP)),fun v h' tk hP hk=>?_⟩
    ·show b<(s.heap.push _).objs.size
     rw [Rl];rcases(by simpa using hb:b=s.heap.objs.size\/b=a) with e|e <;> rw [e]
     ·exact QJ _
     ·exact QK bT
    ·rw [hsz] at hP
     have hP':its.toList[argBest (fun i j=>decide (ks.getD i []<ks.getD j [])) (ks.length - 1)]?=some v:=by rw [QP];exact hP
     have kp:∀b o,s.heap.get? b=some o->h'.get? b=some o:=fun b o e=>hk b o (fun hm=>by
      rw [OK.mp hm] at e;exact Qj _ (O4 e)) (OJ _ e)
     obtain⟨hj,_⟩:=OY.mp hP';rw [hl] at hj;refine(I.kept (t':=tk) kp).ep ?_;have:=oV rr _ (.str ks[argBest (fun i j=>decide (ks.getD i []<ks.getD j [])) (ks.length - 1)]) v (by simp [hj]) hP'
     have e:ks.getD (argBest (fun i j=>decide (ks.getD i []<ks.getD j [])) (ks.length - 1)) []=ks[argBest (fun i j=>decide (ks.getD i []<ks.getD j [])) (ks.length - 1)]:=by rw [Gd9,Ge9 hj];rfl
     rw [e];exact this
   ·cases h
  ·cases h
 ·exact uG I r h
theorem Ce (hu:X.A.units+20<cLine):xx X (compareOp .NotEq) DQ:=fun {pins φ g L s x y w L' u v} I rx ry h=>by
 unfold DQ at h;split at h
 ·split at h
  ·rename_i a b p q e1 e2
   cases h;rw [vH e1] at rx;rw [vH e2] at ry;obtain⟨l1,i1,n1,rfl,g1,r1,_⟩:=I.lst rx;obtain⟨l2,i2,n2,rfl,g2,r2,_⟩:=I.lst ry;have s1:p.length=i1.size:=by simpa using OX r1
   have s2:q.length=i2.size:=by simpa using OX r2
   by_cases hl:p.length=q.length
   ·refine Vo (e:=fun j=>mX 7 (.str (p.getD j [])) (.str (q.getD j []))) (aa g1) (aa g2) (by omega) (by omega) (fun j h1 h2=>?_) _ _ _ _ ?_
    ·have a1:(p.map T.str)[j]?=some (.str (p.getD j [])):=by simp [Gd9,show j<p.length by omega]
     have a2:(q.map T.str)[j]?=some (.str (q.getD j [])):=by simp [Gd9,show j<q.length by omega]
     exact(I.rc 7 rfl rfl (by show X.A.units+1+7<cLine;omega) (oV r1 j _ _ a1 (by simp [h1])) (oV r2 j _ _ a2 (by simp [h2]))).2
    ·have e:(!(Pa i1.size).all fun j=>mX 7 (.str (p.getD j [])) (.str (q.getD j [])))=decide (p≠q):=by
      have key:(Pa i1.size).all (fun j=>mX 7 (.str (p.getD j [])) (.str (q.getD j [])))=decide (p=q):=by
       rw [QC,OD,decide_eq_true_eq];constructor
       ·intro z
        apply Qe hl;intro j h1 h2;have z:=z j (PF.mpr (by omega))
        have z:(p.getD j [] == q.getD j [])=true:=z;simpa [Gd9,h1,h2] using z
       ·rintro rfl j _
        show(p.getD j [] == p.getD j [])=true;exact beq_self_eq_true _
      rw [key];by_cases z:p=q <;> simp [z]
     rw [e];exact I.ep (.bl _)
   ·rw [show decide (p≠q)=true from decide_eq_true fun z=>hl (by rw [z])]
    exact Tz (aa g1) (aa g2) (by simp;omega) (by omega) _ _ _ _ (I.ep (.bl true))
  ·exact jo hu I rx ry h
 ·exact jo hu I rx ry h
theorem mF {ks:List Cs} {i:Nat} (h:i<ks.length):dS (ks.take (i+1))=pL (dS (ks.take i)) ks[i]:=by
 unfold dS;rw [Ss h,T8];rfl
theorem rU (acc:List Cs) (k:Cs):(pL acc k).length=if k∈acc then acc.length else acc.length+1:=by
 unfold pL;split
 ·rfl
 ·simp
theorem vI (ks:List Cs):∀i,i<=ks.length->(dS (ks.take i)).length<=i
 | 0,_=>by simp [dS]
 | i+1,h=>by
  have z:=vI ks i (by omega);rw [mF (by omega),rU];split <;> omega
abbrev yM (ks:List Cs) (k:Str):Bool:=decide (k.cps.toList∈dS ks)
theorem tm {A:Pm} {R:Result->OH->Prop} {a it l:Pf} {ks:List Cs} {its:List OE} (I:Inv X pins φ g L s) (hh:A.handled=none) (hl:s.heap.IsList l its.toArray) (rv:bz g (ks.map .str) its) (hlen:ks.length<900)
  (ha:s.heap.objs.size<=a) (Ca:s.heap.objs.size<=it) (hne:a≠it)
  (fin:∀h' tk,(∀b o,s.heap.get? b=some o->h'.get? b=some o)->h'.SetOf (strKind X.prog X.w) a (yM ks) (dS ks).length->R (.ok (.ret .none)) { s with heap:=h',toks:=tk }) :
  ∀(k i:Nat) (h':Heap) (tk:Nat),its.length - i=k->i<=its.length->(∀b o,s.heap.get? b=some o->h'.get? b=some o)->h'.IsListIter it l i->h'.SetOf (strKind X.prog X.w) a (yM (ks.take i)) (dS (ks.take i)).length ->
   O3 (model X.prog X.w) A.in1 (Builtin.«set.update.loop» ⟨[.ref a,.ref it],[]⟩) (fun fin s'=>match fin with|.done f=>R (.ok f) s'|.again c'=>c'.quiet=true/\codeAny (model X.prog X.w) A c' R s') (fun e s'=>R (.error e) s') { s with heap:=h',toks:=tk }:=by
 obtain⟨E7,Fg⟩:=nY rv;have lt:∀b o,s.heap.get? b=some o->b≠a/\b≠it:=fun b o q=>⟨O8 (O5 (O4 q) ha),O8 (O5 (O4 q) Ca)⟩
 obtain⟨ol,kE,E8⟩:=id hl;intro k;induction k with
 | zero =>
  intro i h' tk hk hi kp hit hS;obtain rfl:i=its.length:=by omega
  unfold Builtin.«set.update.loop»;dsimp only;refine OB (wpAny_pyNext_list_end (s:={ s with heap:=h',toks:=tk }) (A:=A.in1) hh hit (show h'.IsList l its.toArray from⟨ol,kp _ _ kE,E8⟩) (by simp) fun h2 vC=>?_);dsimp only;refine OC ?_;rw [E7,UB] at hS;refine fin h2 tk (fun b o q=>vC b o (lt b o q).2 (kp b o q)) ?_;obtain⟨o,es,ep,t,ho,r⟩:=hS;exact⟨o,es,ep,t,vC a o hne ho,r⟩
 | succ k ih =>
  intro i h' tk hk hi kp hit hS;have sP:i<its.length:=by omega
  have IE:i<ks.length:=by omega
  unfold Builtin.«set.update.loop»;dsimp only;refine OB (wpAny_pyNext_list_item (s:={ s with heap:=h',toks:=tk }) (x:=its[i]) hit (show h'.IsList l its.toArray from⟨ol,kp _ _ kE,E8⟩) (by simp [sP]) fun h1 rP uo=>?_);dsimp only;have E9:∀b o,s.heap.get? b=some o->h1.get? b=some o:=fun b o q=>(uo.2 b (lt b o q).2).trans (kp b o q)
  have hS1:h1.SetOf (strKind X.prog X.w) a (yM (ks.take i)) (dS (ks.take i)).length:=by
   obtain⟨o,es,ep,t,ho,r⟩:=hS;exact⟨o,es,ep,t,(uo.2 a hne).trans ho,r⟩
  obtain⟨t,ev⟩:=Fg i its[i] (Ge9 sP);rw [show ks.getD i []=ks[i] by simp [Gd9,IE]] at ev;rw [ev];have hle:=vI ks i (by omega)
  refine OB (wpAny_holding ?_);unfold setAdd;refine wpAny_holding (OB (wpAny_pyHash_str ?_));have hb:(dS (ks.take i)).length+1<scanBound:=O5 (show(dS (ks.take i)).length+1<1000 by omega) (by decide +kernel)
  have hkey:(strKind X.prog X.w).is (⟨ks[i].toArray⟩:Str) (RM ⟨ks[i].toArray⟩ t)=true:=by show Value.isStrOf _ (RM _ t)=true;simp [Value.isStrOf]
  refine wpAny_setAddHashed_of (knd:=strKind X.prog X.w) (k:=(⟨ks[i].toArray⟩:Str)) hkey rfl hS1 hb fun h2 th hS2=>?_
  have Fe:∀b o,s.heap.get? b=some o->h2.get? b=some o:=fun b o q=>(th.2 b (lt b o q).1).trans (E9 b o q)
  have sQ:h2.IsListIter it l (i+1):=by
   obtain⟨o,ho,r⟩:=rP;exact⟨o,(th.2 it (Qz hne)).trans ho,r⟩
  refine OC ?_;refine⟨plainId_quiet dB _,codeAny_builtin fM ?_⟩;rw [Pw dB _];refine ih (i+1) h2 _ (by omega) (by omega) Fe sQ ?_;have e1:(fun k':Str=>yM (ks.take i) k' || decide (k'=(⟨ks[i].toArray⟩:Str)))=yM (ks.take (i+1)):=by
   funext k';have ek:k'=(⟨ks[i].toArray⟩:Str)↔k'.cps.toList=ks[i]:=by
    obtain⟨⟨l⟩⟩:=k';simp
   unfold yM;rw [mF IE];unfold pL;split
   ·rename_i hm
    by_cases e:k'.cps.toList=ks[i]
    ·rw [e];simp [hm]
    ·simp [ek,e]
   ·by_cases e:k'.cps.toList=ks[i] <;> simp [ek,e]
  have e2:(if yM (ks.take i) (⟨ks[i].toArray⟩:Str)=true then (dS (ks.take i)).length else (dS (ks.take i)).length+1)=(dS (ks.take (i+1))).length:=by
   rw [mF IE,rU];simp [yM]
  rw [<- e1,<- e2];exact hS2
theorem yN (ha:PA X [e] (d5 [m])) (hg:Gl X "len") (hm:X.mg "len"=none) (yr:Gl X "set") (vb:X.mg "set"=none) (A7:[e].all aC=true) (hs:aC (.Call (.Name "set" ap) [e] [] q)=true):PE X (.Call (.Name "len" p) [.Call (.Name "set" ap) [e] [] q] [] pos) (aq kJ [m]):=fun {pins φ g L s w L'} I h=>by
 obtain⟨ts,L1,e1,h⟩:=R.of h;obtain⟨t,rfl,e2⟩:=mD e1;refine wpAny_Call_Name_kw (eL I hg hm (by kernel_rfl:bootBuiltins "len"=some (.builtin "len")) ?_ (by decide) (by decide));refine callWith_builtin1 ?_ (ah hs) (aP rfl);rw [ah hs];refine R9 ?_;refine wpAny_Call_Name_kw (eL I yr vb (by kernel_rfl:bootBuiltins "set"=some (.type "set")) ?_ (by decide) (by decide));refine callWith_type1 (a7 (ha q I e1) fun us s1 ⟨g1,l1,I1,r1⟩=>?_) (ah (by simpa using A7)) (aP rfl);obtain⟨u,rfl,ru⟩:=cY r1;unfold kJ at h;dsimp only at h;obtain⟨pp,v⟩:=I1.view ru;split at h
 ·rename_i ys ev
  split at h
  ·rename_i ks em
   rw [ev,vH em] at v;obtain⟨h9,h⟩:=ao h;cases h;obtain⟨l,its,n,rfl,el,rr,hz⟩:=I1.lst v;have Ff:s1.heap.IsList l its.toList.toArray:=by simpa using aa el
   refine jC (led:=!X.w.params.followText "set-order") Ff rfl ?_;refine codeAny_builtin fM ?_;rw [Pw dB _];have e1:(s1.heap.push { cls:=.type "set",dict:=none,data:=.set #[] 0 (.fresh 0 0 (!X.w.params.followText "set-order")) }).get? s1.heap.objs.size=some { cls:=.type "set",dict:=none,data:=.set #[] 0 (.fresh 0 0 (!X.w.params.followText "set-order")) }:=OM _ rfl
   have e2:(s1.heap.push { cls:=.type "set",dict:=none,data:=.set #[] 0 (.fresh 0 0 (!X.w.params.followText "set-order")) }).objs.size=s1.heap.objs.size+1:=Rl _ _;have e3:((s1.heap.push { cls:=.type "set",dict:=none,data:=.set #[] 0 (.fresh 0 0 (!X.w.params.followText "set-order")) }).push { cls:=.type "list_iterator",data:=.fields #[.ref l,.int 0 0] }).get? (s1.heap.objs.size+1)=some { cls:=.type "list_iterator",data:=.fields #[.ref l,.int 0 0] }:=by
    rw [<- e2];exact OM _ rfl
   have MD:=OX rr;rw [Lm9] at MD;refine tm (A:=X.A.in1.in1) (ks:=ks) (its:=its.toList) (l:=l) I1 I1.ok.hd Ff rr h9 (OR _) (RF _) (O8 (QJ _)) (fun h' tk kp hS=>?_) its.toList.length 0 _ s1.toks (by omega) (Pg _) (fun b o z=>OJ _ (OJ _ z)) ⟨_,e3,rfl,rfl⟩ ?_
   ·have hle:=vI ks ks.length (OR _)
    rw [UB] at hle;refine SD ?_;obtain⟨o,es,ep,t,ho,hex,hd,_,_,_,hf,en⟩:=hS;rw [<- en];exact call_len_set ho hex hd hf (by omega) ((((I1.kept (t':=tk) kp).tok _).ep (.int _ _)).le l1)
   ·refine⟨_,#[],0,_,OJ _ e1,⟨rfl,rfl,rfl⟩,rfl,(fun e he=>by simp at he),fun k=>?_,by decide +kernel,?_,rfl⟩
    ·simp [yM,dS]
    ·rfl
  ·cases h
 ·cases h
end
end M
namespace M
open PySem PySem.Spec PyProof.Rows
structure cR (X:Cx) (Γ:Ct):Prop where
 hu:X.A.units+20<cLine
 fn:∀x F,Γ.fn.lookup x=some F->(x == ("__debug__":Str))=false/\∃k fa,iR X.prog X.w X.K X.mg X.cls X.base k fa F/\bY k X.A/\X.mg x=some (.ref fa)/\PW X.K (.ref fa)=true
 co:∀x t,Γ.co.lookup x=some t->(x == ("__debug__":Str))=false/\∃u,X.mg x=some u/\∀g:G,g.B=X.base->g.cls=X.cls->g.w=X.w->RT g none t u
 us:∀x∈Γ.us,X.mg x=none/\x≠"__name__"/\(x == ("__debug__":Str))=false
 fl:∀c C,X.cls c=some C->zR X.K Γ.fl C
 me:∀m mf,Γ.me.lookup m=some mf->∀c C F,X.cls c=some C->mf.lookup c=some F->∃fa k,Hh X.K C/\Meth X.K C m fa/\iR X.prog X.w X.K X.mg X.cls X.base k fa F/\bY k X.A
structure bZ (X:Cx) (S:Sg):Prop where
 N:X.N=S.N
 nd:S.N.Nodup
 nm:S.N.all u5=true
 loc:∀x,S.sc.names.lookup x=some .local->X.env.scope.names.lookup x=some .local
 Ht:∀x,S.sc.names.lookup x=some .cell->X.env.scope.names.lookup x=some .cell/\X.fn x=true
 KQ:∀x,S.sc.names.lookup x=some .free->X.env.scope.names.lookup x=some .cell\/X.env.scope.names.lookup x=some .free
 ME:∀x,S.sc.names.lookup x=some .globalImplicit->X.env.scope.names.lookup x=some .globalImplicit
 fc:∀x F,S.fc.lookup x=some F->∀e es ms p pos,Gl X x->(e::es).all aC=true->PA X (e::es) (d5 ms)->PE X (.Call (.Name x p) (e::es) [] pos) (aq F ms)
structure cy (X:Cx) (B:Bd):Prop where
 E:∀e,PE X e (B.E e)
 T:∀e,PT X e (B.T e)
 S:∀st,PS X st (B.S st)
section
variable {X:Cx} {Γ:Ct} {S:Sg} {B:Bd} {BS:Sg->Bd} {x:Str} {i:Nat} {pos p p2:Pos} {a b e:Expr} {es:List Expr}
theorem jF {N:List Str} (h:DR N x=some i):N[i]?=some x:=by
 obtain⟨h1,h2,_⟩:=PU.mp h;rw [Ge9 h1,eq_of_beq h2]
theorem nZ (c:bZ X S) (h:S.N[i]?=some x):(x == ("__debug__":Str))=false/\(x == ("__classdict__":Str))=false:=by
 have:=OD.mp c.nm x (PH h);unfold u5 at this;simpa using this
theorem at_of (c:bZ X S) (h:S.at x=some i):X.N[i]?=some x/\HB X.env.scope x:=by
 unfold Sg.at at h;rw [c.N];split at h
 ·exact⟨jF h,.inl (c.loc x (by assumption))⟩
 ·exact⟨jF h,.inr (.inl (c.Ht x (by assumption)).1)⟩
 ·refine⟨jF h,?_⟩
  rcases c.KQ x (by assumption) with z|z
  ·exact .inr (.inl z)
  ·exact .inr (.inr z)
 ·cases h
theorem qd (c:bZ X S) (h:S.own x=some i):o8 X i x:=by
 unfold Sg.own at h;split at h
 ·exact⟨by rw [c.N];exact c.nd,by rw [c.N];exact jF h,.inl (c.loc x (by assumption)),.inr (c.loc x (by assumption))⟩
 ·exact⟨by rw [c.N];exact c.nd,by rw [c.N];exact jF h,.inr (c.Ht x (by assumption)).1,.inl (c.Ht x (by assumption)).2⟩
 ·cases h
theorem fg (c:bZ X S) (h:S.gl x=true):Gl X x:=by
 unfold Sg.gl at h;split at h
 ·exact c.ME x (by assumption)
 ·cases h
theorem yO (o:cR X Γ) (c:bZ X S):PE X (.Name x pos) (eName Γ S x):=by
 unfold eName;split
 ·rename_i h
  obtain⟨h1,h2⟩:=at_of c h;have:=nZ c (by rw [<- c.N];exact h1)
  exact fun {_ _ _ _ _ _ _} I h=>AL h1 h2 this.1 this.2 I h
 ·split
  ·rename_i hg
   split
   ·rename_i ht
    obtain⟨h1,u,h2,h3⟩:=o.co x _ ht;exact AR (fg c hg) h2 h3 h1
   ·split
    ·rename_i n hu hn
     obtain⟨h1,h2,h3⟩:=o.us x (by simpa using hu);have hb:bootBuiltins x=some (.type n):=by
      simp only [Ph] at hn
      repeat' split at hn
      all_goals first|cases hn|skip
      all_goals (rename_i hx;have hx:=eq_of_beq hx;subst hx;kernel_rfl)
     exact fun {_ _ _ _ _ _ _} I q=>AS (fg c hg) h1 hb (fun _ _ _ _=>.ty _) h2 h3 I q
    ·exact fun {_ _ _ _ _ _ _} I q=>cz I q
  ·exact fun {_ _ _ _ _ _ _} I q=>cz I q
theorem Cf {k:Const} {j:Nat}:PE X (.Constant k j pos) (BU k):=by
 cases k with
 | int=>exact AM
 | bool=>exact Ea
 | none=>exact AO
 | str x =>
  delta BU;dsimp only;split
  ·rename_i h;exact AQ (of_decide_eq_true h)
  ·exact cz
 | _=>exact cz
theorem rV {op:CmpOp} (hu:X.A.units+20<cLine):xx X (compareOp op) (EN op a b):=by
 cases op with
 | NotEq=>cases a with
  | Call=>cases b with
   | Call=>exact Ce hu
   | _=>exact jo hu
  | _=>exact jo hu
 | _=>exact jo hu
theorem Cg (o:cR X Γ) (hB:cy X B) {ops:List CmpOp}:PE X (.Compare a ops es pos) (u4 B a ops es):=by
 unfold u4;split
 ·exact cz
 ·split
  ·split
   ·split
    ·exact AV (rV o.hu) (hB.E _) (hB.E _) (by assumption)
    ·exact cz
   ·exact cz
  ·exact cz
theorem yP (o:cR X Γ) (hB:cy X B) {ops:List CmpOp}:PT X (.Compare a ops es pos) (tv (u4 B a ops es)):=by
 have Ci:PT X (.Compare a ops es pos) (tv no):=fun {_ _ _ _ _ _ _} w _ I h=>by cases h
 unfold u4;split
 ·exact @Ci
 ·split
  ·split
   ·split
    ·rename_i hm;exact fun {_ _ _ _ _ _ _} w hw I h=>A0 (rV o.hu) (hB.E _) (hB.E _) hm w hw I h
    ·exact @Ci
   ·exact @Ci
  ·exact @Ci
theorem vJ (hB:cy X B) {o:Option Expr}:PO X o (o.map B.E):=by
 cases o with
 | none=>exact x6
 | some e=>exact x7 (hB.E e)
theorem Cj (o:cR X Γ) (hB:cy X B):PE X (.Subscript a b pos) (EO Γ B a b pos):=by
 have V:PE X (.Subscript a b pos) (Ho B a b):=by
  unfold Ho;split
  ·exact Eb (EE o.hu (by assumption)) (hB.E _) (hB.E _)
  ·exact cz
 cases b with
 | Slice lo hi st p=>cases st with
  | none=>exact fun {_ _ _ _ _ _ _} I q=>Bt (hB.E _) (vJ hB) (vJ hB) I q
  | some _=>exact @V
 | _=>exact @V
theorem bO (hB:cy X B):∀{es:List Expr},es.all aC=true->PA X es (d5 (es.map B.E))
 | [],_=>lJ
 | e::es,h=>by
  rw [PK,ON] at h;exact gE (hB.E e) (bO hB h.2) h.1
theorem rW (hB:cy X B):∀(es:List Expr),PT X (.BoolOp .And es pos) (mw (es.map B.T))
 | []=>qI
 | [a]=>xM (hB.T a)
 | a::b::r=>AZ (hB.T a) (rW hB (b::r))
theorem vK (hB:cy X B):∀(es:List Expr),PT X (.BoolOp .Or es pos) (sZ (es.map B.T))
 | []=>qI
 | [a]=>AY (hB.T a)
 | a::b::r=>Ec (hB.T a) (vK hB (b::r))
theorem fB (hB:cy X B):∀(l:List Stmt),xw X l (af (l.map B.S))
 | []=>xN
 | s::l=>ug (hB.S s) (fB hB l)
theorem qe (c:bZ X S) {tg:Expr} {t:Tg} (h:H9 S tg=some t):PG X tg t:=by
 cases tg with
 | Name x p =>
  obtain⟨i,h1,rfl⟩:=OW.mp h;exact lK (qd c h1)
 | _=>cases h
theorem mG (o:cR X Γ) (c:bZ X S) (hB:cy X B) {tg:Expr}:PI X tg e (stI Γ B S tg e):=by
 unfold stI;split
 ·rename_i x px es pos
  unfold z0;split
  ·rename_i hc
   simp only [ON] at hc;obtain⟨⟨h1,h2⟩,h3⟩:=hc;have hg:=fg c h1
   have hm:=(o.us x (by simpa using h2)).1;split
   ·rename_i hx
    have:=eq_of_beq hx;subst this;split
    ·simp only [PK,Vw,Vs] at h3
     exact fun {_ _ _ _ _ _ _ _} I h=>xQ hg hm (hB.E _) h3 I h
    ·simp only [PK,Vw,Vs,ON] at h3
     exact fun {_ _ _ _ _ _ _ _} I h=>xR hg hm (hB.E _) (hB.E _) h3.1 h3.2 I h
    ·exact fun {_ _ _ _ _ _ _ _} I h=>lM (hB.E _) I h
   ·exact fun {_ _ _ _ _ _ _ _} I h=>lM (hB.E _) I h
  ·exact fun {_ _ _ _ _ _ _ _} I h=>lM (hB.E _) I h
 ·exact fun {_ _ _ _ _ _ _ _} I h=>lM (hB.E _) I h
theorem hK {scope:Scope} {env:Env} {y:Str} {k:NameKind} (h:scope.names.lookup y=some k) (hk:k≠.free):(relabel scope env).names.lookup y=some k:=by
 have go:∀(names:List (Str × NameKind)),names.lookup y=some k->(names.map fun(n,k)=>if (k == Qt && env.scope.kind == .function && env.kindOf n == some .cell) then (n,Uk) else (n,k)).lookup y=some k:=by
  intro names;induction names with
  | nil=>intro h;simp at h
  | cons a r ih =>
   obtain⟨n,k'⟩:=a;intro h;rw [OZ];rw [Ph] at h;by_cases hc:(k' == Qt && env.scope.kind == .function && env.kindOf n == some .cell)=true
   ·simp only [hc,if_true,Ph]
    cases hy:y == n with
    | true =>
     rw [hy] at h;have e:k'=k:=Qq h
     simp only [ON,beq_iff_eq] at hc;exact absurd (e ▸ hc.1.1) hk
    | false =>
     rw [hy] at h;exact ih h
   ·simp only [hc,OQ,if_false,Ph]
    cases hy:y == n with
    | true =>
     rw [hy] at h;exact h
    | false =>
     rw [hy] at h;exact ih h
 exact go scope.names h
theorem rY (c:bZ X S) {sc:Scope} (h:pN S sc=true):jf X sc (inN sc) (aM S sc)/\∀cl C s₀ H₀ ex,bZ (b6 X sc cl (inN sc) C s₀ H₀ ex) ⟨inN sc,sc,[]⟩:=by
 unfold pN at h;simp only [ON] at h;obtain⟨⟨⟨h1,h2⟩,h3⟩,h4⟩:=h;have h2:=OD.mp h2
 have jg:∀y∈sc.names,y.2≠.cell:=fun y hy e=>by
  have:=h2 y hy;rw [e] at this;cases this
 constructor
 ·refine⟨?_,jg,fun y hy e=>?_,fun y hy e=>?_,fun i y j q1 q2=>?_,of_decide_eq_true h3,by unfold aM;rw [Lm9]⟩
  ·split at h1
   ·assumption
   ·cases h1
  ·have:=h2 y hy
   simp only [e] at this;split at this
   ·assumption
   ·cases this
  ·have:=h2 y hy
   simp only [e] at this;split at this
   ·rename_i k;exact .inl (c.Ht _ k).1
   ·rename_i k;exact c.KQ _ k
   ·cases this
  ·unfold aM at q2
   rw [Pb,q1] at q2;simp only [Option.map_some,Option.some.injEq] at q2;split at q2
   ·rename_i k
    exact⟨(at_of c q2).1,k⟩
   ·cases q2
 ·intro cl C s₀ H₀ ex
  exact⟨rfl,of_decide_eq_true h3,h4,fun x h=>hK h (by decide),fun x h=>absurd rfl (jg (x,.cell) (Pt h)),fun x h=>gM h,fun x h=>hK h (by decide),fun x F h=>(by cases h)⟩
theorem cR.comp (o:cR X Γ) {sc:Scope} {N:List Str} {cl C s₀ H₀ ex}:cR (b6 X sc cl N C s₀ H₀ ex) Γ:=⟨o.hu,o.fn,o.co,o.us,o.fl,o.me⟩
theorem n5 (hB:cy X B) (ifs:List Expr):Bb X ifs (tests B ifs):=by
 unfold tests;split
 ·exact xS
 ·exact xT (hB.T _)
 ·exact fun I h=>by cases h
theorem yQ (hS:∀X S,cR X Γ->bZ X S->cy X (BS S)) (o:cR X Γ) (c:bZ X S) {elt tg iter:Expr} {ifs:List Expr} {sc:Scope}:PE X (.ListComp elt [⟨tg,iter,ifs,0⟩] sc pos) (kL Γ BS S elt tg iter ifs sc pos):=by
 unfold kL;split
 ·rename_i t ht
  split
  ·rename_i h
   simp only [ON] at h;obtain⟨⟨h1,h2⟩,h3⟩:=h;obtain⟨k1,k2⟩:=rY c h1;refine fun {_ _ _ _ _ _ _} I h=>qN k1 (fun i hi=>?_) (mG o c (hS X S o c)) (fun cl C s₀ H₀ ex=>qe (k2 cl C s₀ H₀ ex) ht) (fun cl C s₀ H₀ ex=>n5 (hS _ _ o.comp (k2 cl C s₀ H₀ ex)) ifs) (fun cl C s₀ H₀ ex=>(hS _ _ o.comp (k2 cl C s₀ H₀ ex)).E elt) h2 I h
   have:=OD.mp h3 i hi;split at this
   ·assumption
   ·cases this
  ·exact cz
 ·exact cz
theorem vL (hS:∀X S,cR X Γ->bZ X S->cy X (BS S)) (o:cR X Γ) (c:bZ X S) {y:Str} (hy:o8 X i y) {elt tg iter:Expr} {ifs:List Expr} {sc:Scope}:PS X (.Assign [.Name y p] (.ListComp elt [⟨tg,iter,ifs,0⟩] sc pos) p2) (asg (.one i) (kL Γ BS S elt tg iter ifs sc pos)):=by
 have Ci:PS X (.Assign [.Name y p] (.ListComp elt [⟨tg,iter,ifs,0⟩] sc pos) p2) (asg (.one i) no):=fun I h=>absurd rfl h
 unfold kL;split
 ·rename_i t ht
  split
  ·rename_i h
   simp only [ON] at h;obtain⟨⟨h1,h2⟩,h3⟩:=h;obtain⟨k1,k2⟩:=rY c h1;refine fun {_ _ _ _ _} I h=>xX hy k1 (fun i hi=>?_) (mG o c (hS X S o c)) (fun cl C s₀ H₀ ex=>qe (k2 cl C s₀ H₀ ex) ht) (fun cl C s₀ H₀ ex=>n5 (hS _ _ o.comp (k2 cl C s₀ H₀ ex)) ifs) (fun cl C s₀ H₀ ex=>(hS _ _ o.comp (k2 cl C s₀ H₀ ex)).E elt) h2 I h
   have:=OD.mp h3 i hi;split at this
   ·assumption
   ·cases this
  ·exact fun {_ _ _ _ _} I h=>Ci I h
 ·exact fun {_ _ _ _ _} I h=>Ci I h
end
section
variable {X:Cx} {Γ:Ct} {S:Sg} {B:Bd} {BS:Sg->Bd} {x:Str} {i:Nat} {pos p p2:Pos} {a b e o:Expr} {es:List Expr} {fz:Bool} {F:Fn}
theorem jG {α β:Type} [BEq α] [LawfulBEq α] {P:α->β->Prop} {x:α} {b:β}:∀{l:List (α × β)},l.lookup x=some b->(∀p∈l,P p.1 p.2)->P x b
 | (a,c)::l,h,k=>by
  rw [Ph] at h;split at h
  ·rename_i e
   cases h;cases eq_of_beq e;exact k _ OI
  ·exact jG h fun p hp=>k p (OG _ hp)
theorem lc {α:Type} {P:α->Prop} {a:α} {l:List α} (h:P a) (k:∀x∈l,P x):∀x∈a::l,P x:=List.forall_mem_cons.mpr ⟨h,k⟩
theorem ln {α:Type} {P:α->Prop}:∀x∈([]:List α),P x:=fun _ h=>nomatch h
theorem Ck (hu:X.A.units+20<cLine) (h:blt x fz=some F):∃f,bootBuiltins x=some f/\dN X f F/\((∃id,f=.builtin id)\/∃T,f=.type T):=by
 refine jG (P:=fun x F=>∃f,bootBuiltins x=some f/\dN X f F/\((∃id,f=.builtin id)\/∃T,f=.type T)) h ?_
 repeat' refine lc ?_ ?_
 ·exact⟨_,by kernel_rfl,uD,.inl ⟨_,rfl⟩⟩
 ·exact⟨_,by kernel_rfl,sS,.inr ⟨_,rfl⟩⟩
 ·exact⟨_,by kernel_rfl,uE,.inr ⟨_,rfl⟩⟩
 ·exact⟨_,by kernel_rfl,ti,.inl ⟨_,rfl⟩⟩
 ·exact⟨_,by kernel_rfl,yc,.inl ⟨_,rfl⟩⟩
 ·exact⟨_,by kernel_rfl,sU hu,.inr ⟨_,rfl⟩⟩
 ·exact⟨_,by kernel_rfl,s9 hu,.inl ⟨_,rfl⟩⟩
 ·exact ln
theorem Cm (hu:X.A.units+20<cLine) {f:Ty->Option (T->Fn)} (h:KA x fz=some f):∀y F,f y=some F->By X x y F:=by
 refine jG (P:=fun x f=>∀y F,f y=some F->By X x y F) h ?_
 repeat' refine lc ?_ ?_
 rotate_right
 ·exact ln
 all_goals (intro y F hf;cases y <;> cases hf)
 ·exact⟨_,Ut,S7,PySem.F.type_list_append,Bz⟩
 ·exact⟨_,UO,PySem.F.slot_str_join,PySem.F.type_str_join,yf⟩
 ·exact⟨_,Sn,UU,PySem.F.type_dict_get,BE hu⟩
 ·exact⟨_,Sn,Td,PySem.F.type_dict_setdefault,BF hu⟩
 ·exact⟨_,Ut,Uh,PySem.F.type_list_remove,Cc hu⟩
 ·exact⟨_,UO,PySem.F.slot_str_isupper,PySem.F.type_str_isupper,Cd⟩
theorem yR (o:cR X Γ) (c:bZ X S) (hB:cy X B) {q:Fn × List Expr} (hg:Gl X x) (h1:X.mg x=none) (h2:x≠"__name__") (h3:(x == ("__debug__":Str))=false) (hs:es.all aC=true) (h:nest Γ S fz x es=some q):PE X (.Call (.Name x p) es [] pos) (aq q.1 (q.2.map B.E)):=by
 unfold nest at h;split at h
 case h_2=>cases h
 split at h
 case h_2=>cases h
 split at h
 case h_2=>cases h
 split at h
 case h_3=>cases h
 ·rename_i Hm q _ _ y p2
  replace hs:aC (.Call (.Name y p2) Hm [] q)=true:=by simpa using hs
  unfold z6 at h;split at h
  case h_2=>cases h
  rename_i hb;simp only [ON] at hb;obtain⟨⟨⟨b1,b2⟩,b3⟩,b4⟩:=hb;obtain⟨m1,m2,m3⟩:=o.us y (by simpa using b2);split at h
  ·rename_i hx
   rw [ON] at hx;have e1:=eq_of_beq hx.1
   have e2:=eq_of_beq hx.2;subst e1 e2;split at h
   ·cases h
    exact fun {_ _ _ _ _ _ _} I q=>vG o.hu (bO hB b3) hg h1 (fg c b1) m1 b3 hs I q
   ·cases h
  ·split at h
   ·rename_i hx
    rw [ON] at hx;have e1:=eq_of_beq hx.1
    have e2:=eq_of_beq hx.2;subst e1 e2;split at h
    ·cases h
     exact fun {_ _ _ _ _ _ _} I q=>yN (bO hB b3) hg h1 (fg c b1) m1 b3 hs I q
    ·cases h
   ·cases h
 ·rename_i Hm q _ _ ob m ap
  split at h
  case h_2=>cases h
  replace hs:aC (.Call (.Attribute ob m ap) [] [] q)=true:=by simpa using hs
  unfold z7 at h;split at h
  ·rename_i hb
   simp only [ON] at hb;obtain⟨⟨⟨⟨b1,b2⟩,b3⟩,b4⟩,b5⟩:=hb;have e1:=eq_of_beq b3
   have e2:=eq_of_beq b4;subst e1 e2;cases h;exact fun {_ _ _ _ _ _ _} I q=>vF o.hu (hB.E _) b1 b2 hg h1 hs I q
  ·cases h
theorem yS (o:cR X Γ) (c:bZ X S) (hB:cy X B):PE X (.Call (.Name x p) es [] pos) (u6 Γ B S x es pos):=by
 unfold u6;split
 ·rename_i h
  simp only [ON] at h;split
  ·rename_i F hF
   cases es with
   | nil=>exact fun {_ _ _ _ _ _ _} I q=>cz I q
   | cons e es=>exact fun {_ _ _ _ _ _ _} I q=>c.fc x F hF _ _ _ _ _ (fg c h.1) h.2 (bO hB h.2) I q
  split
  ·rename_i F hF
   obtain⟨h1,k,fa,h2,h3,h4,h5⟩:=o.fn x F hF;cases es with
   | nil=>exact fun {_ _ _ _ _ _ _} I q=>xZ (pv h2 h3) (fg c h.1) h4 h5 h1 I q
   | cons e es=>exact fun {_ _ _ _ _ _ _} I q=>ux (pv h2 h3) (fg c h.1) h4 h5 (bO hB h.2) h.2 h1 I q
  ·split
   ·rename_i hb hF
    simp only [ON] at hb;obtain⟨h1,h2,h3⟩:=o.us x (by simpa using hb.1);split
    ·rename_i q hq
     exact fun {_ _ _ _ _ _ _} I z=>yR o c hB (fg c h.1) h1 h2 h3 h.2 hq I z
    ·cases es with
     | nil=>exact absurd hb.2 (by simp)
     | cons e es=>exact fun {_ _ _ _ _ _ _} I q=>Bu (Ck o.hu hF) (fg c h.1) h1 h2 h3 (bO hB h.2) h.2 I q
   ·exact fun {_ _ _ _ _ _ _} I q=>cz I q
 ·exact fun {_ _ _ _ _ _ _} I q=>cz I q
theorem yT (oc:cR X Γ) (hB:cy X B):PE X (.Call (.Attribute o x p) es [] pos) (u7 Γ B o x p es pos):=by
 unfold u7;split
 ·rename_i h
  simp only [ON] at h;obtain⟨⟨⟨h1,h2⟩,h3⟩,h4⟩:=h;have h3:=of_decide_eq_true h3
  have h0:es=[]->es.map B.E=[]:=fun e=>by rw [e];rfl
  split
  ·rename_i f hf
   exact fun {_ _ _ _ _ _ _} I q=>yd (Cm oc.hu hf) (hB.E o) (bO hB h2) h0 h2 h3 h1 h4 I q
  ·exact fun {_ _ _ _ _ _ _} I q=>cz I q
 ·exact fun {_ _ _ _ _ _ _} I q=>cz I q
theorem vM (hS:∀X S,cR X Γ->bZ X S->cy X (BS S)) (o:cR X Γ) (c:bZ X S) (e:Expr):PE X e (BV Γ BS S e):=by
 have hB:=hS X S o c;have no:PE X e no:=fun {_ _ _ _ _ _ _} I q=>cz I q
 cases e with
 | Name=>exact fun {_ _ _ _ _ _ _} I q=>yO o c I q
 | Constant=>exact fun {_ _ _ _ _ _ _} I q=>Cf I q
 | BinOp=>exact fun {_ _ _ _ _ _ _} I q=>AU Bq (hB.E _) (hB.E _) I q
 | Compare=>exact fun {_ _ _ _ _ _ _} I q=>Cg o hB I q
 | List =>
  delta BV;dsimp only;split
  ·rename_i h;exact fun {_ _ _ _ _ _ _} I q=>A1 (bO hB h) I q
  ·exact @no
 | Tuple =>
  delta BV;dsimp only;split
  ·rename_i h
   simp only [ON] at h;exact fun {_ _ _ _ _ _ _} I q=>A2 (bO hB h.1) (Pq (of_decide_eq_true h.2) (by decide)) (by simp) I q
  ·exact @no
 | Dict a b=>cases a with
  | nil=>cases b with
   | nil=>exact fun {_ _ _ _ _ _ _} I q=>yp I q
   | _=>exact @no
  | _=>exact @no
 | Subscript=>exact fun {_ _ _ _ _ _ _} I q=>Cj o hB I q
 | ListComp _ gs=>cases gs with
  | nil=>exact @no
  | cons g r =>
   obtain⟨tg,it,fs,n⟩:=g;cases n with
   | ofNat n=>cases n with
    | zero=>cases r with
     | nil=>exact fun {_ _ _ _ _ _ _} I q=>yQ hS o c I q
     | cons=>exact @no
    | succ=>cases r <;> exact @no
   | negSucc=>cases r <;> exact @no
 | Call f es ks=>cases ks with
  | nil=>cases f with
   | Name=>exact fun {_ _ _ _ _ _ _} I q=>yS o c hB I q
   | Attribute=>exact fun {_ _ _ _ _ _ _} I q=>yT o hB I q
   | _=>exact @no
  | cons=>cases f <;> exact @no
 | _=>exact @no
theorem Cn (o:cR X Γ) (hB:cy X (BS S)) (hE:∀e,PE X e (BV Γ BS S e)) (e:Expr):PT X e (nK (BS S) (BV Γ BS S) e):=by
 have no:PT X e no:=fun {_ _ _ _ _ _ _} w hw I q=>qI w hw I q
 cases e with
 | UnaryOp op=>cases op with
  | Not=>exact fun {_ _ _ _ _ _ _} w hw I q=>AX (hB.T _) w hw I q
  | _=>exact @no
 | BoolOp op=>cases op with
  | And=>exact fun {_ _ _ _ _ _ _} w hw I q=>rW hB _ w hw I q
  | Or=>exact fun {_ _ _ _ _ _ _} w hw I q=>vK hB _ w hw I q
 | Compare=>exact fun {_ _ _ _ _ _ _} w hw I q=>yP o hB w hw I q
 | Name|Call|Subscript|Constant=>exact fun {_ _ _ _ _ _ _} w hw I q=>AW (hE _) (fun _=>rfl) (fun _ _ _ h=>by cases h) w hw I q
 | _=>exact @no
theorem Fh {tg:Expr} {l:Nat} {env:Env} (h:fP e=true):swapsWithSole [tg] e l env=pure false:=fq h
theorem Co {gs:List Comprehension} {tg iter:Expr} {ifs:List Expr} (h:Ia gs=some (tg,iter,ifs)):gs=[⟨tg,iter,ifs,0⟩]:=by
 unfold Ia at h;split at h
 ·cases h;rfl
 ·cases h
theorem Cp (hS:∀X S,cR X Γ->bZ X S->cy X (BS S)) (o:cR X Γ) (c:bZ X S) {tg:Expr}:PS X (.Assign [tg] e pos) (yC Γ BS S tg e):=by
 have hB:=hS X S o c;have no:PS X (.Assign [tg] e pos) j9:=fun {_ _ _ _ _} I q=>uf I q
 cases tg with
 | Name x p =>
  delta yC;dsimp only;split
  ·rename_i i hi
   have V:PS X (.Assign [.Name x p] e pos) (yB BS S i e):=by
    unfold yB;split
    ·rename_i hv
     exact fun {_ _ _ _ _} I q=>uh (hB.E _) (lK (qd c hi)) (Fh hv) rfl rfl I q
    ·exact @no
   cases e with
   | ListComp elt gs sc q =>
    dsimp only;split
    ·rename_i hg
     cases Co hg;exact fun {_ _ _ _ _} I q=>vL hS o c (qd c hi) I q
    ·exact @V
   | _=>exact @V
  ·exact @no
 | Subscript ob i _ =>
  delta yC;dsimp only;split
  ·rename_i h;exact fun {_ _ _ _ _} I q=>yn o.hu (hB.E _) (hB.E _) (hB.E _) h I q
  ·exact @no
 | _=>exact @no
theorem Cq (hS:∀X S,cR X Γ->bZ X S->cy X (BS S)) (o:cR X Γ) (c:bZ X S) (st:Stmt):PS X st (ER Γ BS S st):=by
 have hB:=hS X S o c;have no:PS X st j9:=fun {_ _ _ _ _} I q=>uf I q
 cases st with
 | Pass=>exact fun {_ _ _ _ _} I q=>xO I q
 | Expr =>
  delta ER;dsimp only;split
  ·rename_i h;exact fun {_ _ _ _ _} I q=>A3 (hB.E _) h I q
  ·exact @no
 | Return v=>cases v with
  | none=>exact fun {_ _ _ _ _} I q=>xP I q
  | some=>exact fun {_ _ _ _ _} I q=>A4 (hB.E _) I q
 | If=>exact fun {_ _ _ _ _} I q=>Ed (hB.T _) (fB hB _) (fB hB _) I q
 | Assign ts=>cases ts with
  | nil=>exact @no
  | cons t r=>cases r with
   | nil=>exact fun {_ _ _ _ _} I q=>Cp hS o c I q
   | cons=>exact @no
 | AugAssign t=>cases t with
  | Subscript =>
   delta ER;dsimp only;split
   ·rename_i h;exact fun {_ _ _ _ _} I q=>yo o.hu (hB.E _) (hB.E _) (hB.E _) h I q
   ·exact @no
  | _=>exact @no
 | For tg e b r=>cases r with
  | nil =>
   delta ER;dsimp only;split
   ·rename_i h1 h2;exact fun {_ _ _ _ _} I q=>A8 (mG o c hB) (qe c h1) (fB hB _) h2 I q
   ·exact @no
  | cons=>exact @no
 | _=>exact @no
theorem iG:∀(n:Nat) (X:Cx) (S:Sg),cR X Γ->bZ X S->cy X (cX Γ n S)
 | 0,X,S,_,_=>⟨fun _ {_ _ _ _ _ _ _} I q=>cz I q,fun _ {_ _ _ _ _ _ _} w hw I q=>qI w hw I q,fun _ {_ _ _ _ _} I q=>uf I q⟩
 | n+1,X,S,o,c=>⟨vM (iG n) o c,Cn o (iG n X S o c) (vM (iG n) o c),Cq (iG n) o c⟩
theorem mH (o:cR X Γ) (c:bZ X S) (b:List Stmt):xw X b (code Γ S b):=fB (iG 40 X S o c) b
end
section
variable {P:Pp} {w:Qn} {K:O7} {mg:Str->Option OE} {cls:Str->Option Pf} {base:Heap} {N ps:List Str} {qual:Str} {scope:Scope} {f:Pf} {g:G} {L:Live}
end
noncomputable def eW (s:Stmt):Arguments:=match s with
 | .FunctionDef _ a ..=>a
 | _=>⟨[],[],none,[],[],none,[]⟩
noncomputable def bodyOf (s:Stmt):List Stmt:=match s with
 | .FunctionDef _ _ b ..=>b
 | _=>[]
noncomputable def ae (s:Stmt):Scope:=match s with
 | .FunctionDef _ _ _ _ _ _ sc ..=>sc
 | _=>⟨.function,[],false,false,[]⟩
noncomputable def Fi:NameKind->Bool
 | .local=>true
 | .cell=>true
 | _=>false
noncomputable def dK (ps:List Str) (sc:Scope):List Str:=ps++((sc.names.filter fun y=>Fi y.2).map (·.1)).filter fun y=>!ps.contains y
noncomputable def n6 (ps:List Str) (sc:Scope):Bool:=(match sc.kind with
  | .function=>true
  | _=>false) && !sc.isCoroutine && !sc.isGenerator && decide (dK ps sc).Nodup && (ps.all fun x=>match sc.names.lookup x with
  | some k=>Fi k
  | none=>false) && (sc.names.all fun y=>match y.2 with
  | .free=>false
  | _=>true) && (dK ps sc).all u5
structure qf (K:O7) (x qual:Str) (st:Stmt) (f:Pf):Prop where
 ex:∃(oc:OE) (od:Option Pf) (kV doc pm:OE) (an:Option Pf) (aU ct:OE) (kz:Array (Option OE)),K.lookup f=some ⟨oc,od,.func (P5 x qual (eW st) (bodyOf st) (ae st) .none kV doc pm an aU ct),kz⟩/\Rm K aU qual=true
 kp:PW K (.ref f)=true
structure Tab (P:Pp) (w:Qn) (K:O7) (mg:Str->Option OE) (cls:Str->Option Pf) (base:Heap) (n:Nat) (Γ:Ct):Prop where
 fn:∀x F,Γ.fn.lookup x=some F->(x == ("__debug__":Str))=false/\∃fa,iR P w K mg cls base n fa F/\mg x=some (.ref fa)/\PW K (.ref fa)=true
 co:∀x t,Γ.co.lookup x=some t->(x == ("__debug__":Str))=false/\∃u,mg x=some u/\∀g:G,g.B=base->g.cls=cls->g.w=w->RT g none t u
 us:∀x∈Γ.us,mg x=none/\x≠"__name__"/\(x == ("__debug__":Str))=false
 fl:∀c C,cls c=some C->zR K Γ.fl C
 me:∀m mf,Γ.me.lookup m=some mf->∀c C F,cls c=some C->mf.lookup c=some F->∃fa,Hh K C/\Meth K C m fa/\iR P w K mg cls base n fa F
noncomputable def Ct.Cr (Γ:Ct) (x:Str) (F:Fn):Ct:={ Γ with fn:=(x,F)::Γ.fn }
section
variable {P:Pp} {w:Qn} {K:O7} {mg:Str->Option OE} {cls:Str->Option Pf} {base:Heap} {n:Nat} {Γ:Ct} {x qual:Str} {st:Stmt} {f:Pf} {ps:List Str} {m F:Fn}
theorem iR.mono {j k:Nat} (h:iR P w K mg cls base j f m) (l:j<=k):iR P w K mg cls base k f m:=fun {_ _ _ _ _ _ _ _} hr e r q=>h (hr.mono l) e r q
theorem Tab.ct {X:Cx} (T:Tab P w K mg cls base n Γ) (h:X.prog=P/\X.w=w/\X.K=K/\X.mg=mg/\X.cls=cls/\X.base=base) (hr:bY n X.A):cR X Γ:=by
 obtain⟨rfl,rfl,rfl,rfl,rfl,rfl⟩:=h;refine⟨?_,fun x F q=>?_,T.co,T.us,T.fl,fun m mf q c C F hc hF=>?_⟩
 ·have:=hr.un;omega
 ·obtain⟨h1,fa,h2,h3,h4⟩:=T.fn x F q
  exact⟨h1,n,fa,h2,hr,h3,h4⟩
 ·obtain⟨fa,h1,h2,h3⟩:=T.me m mf q c C F hc hF
  exact⟨fa,n,h1,h2,h3,hr⟩
theorem i4 (h:n6 ps sc=true):eO (dK ps sc) ps sc/\(dK ps sc).all u5=true:=by
 unfold n6 at h;simp only [ON] at h;obtain⟨⟨⟨⟨⟨⟨h1,h2⟩,h3⟩,h4⟩,h5⟩,h6⟩,h7⟩:=h;refine⟨⟨?_,by simpa using h2,by simpa using h3,of_decide_eq_true h4,by simp [dK],fun x hx=>?_,fun y hy e=>?_⟩,h7⟩
 ·split at h1
  ·assumption
  ·cases h1
 ·have:=OD.mp h5 x hx
  cases e:sc.names.lookup x with
  | none=>rw [e] at this;cases this
  | some k =>
   rw [e] at this;cases k <;> first|exact .inl rfl|exact .inr rfl|cases this
 ·have:=OD.mp h6 y hy
  rw [e] at this;cases this
noncomputable def Dn (rn:Nat->Nat->SS->Fn) (Γ:Ct) (ps:List Str) (st:Stmt) (m:Fn):Prop:=n6 ps (ae st)=true/\rn ps.length (dK ps (ae st)).length (code Γ ⟨dK ps (ae st),ae st,[]⟩ (bodyOf st))=m
theorem Tab.IF (T:Tab P w K mg cls base n Γ) (F:qf K x qual st f)
  (e:Dn run Γ ps st m)
  (hb:∀(kV doc pm:OE) (an:Option Pf) (aU ct:OE) (us:List OE),us.length=ps.length->bindArgs (P5 x qual (eW st) (bodyOf st) (ae st) .none kV doc pm an aU ct) ⟨us,[]⟩=pure (ps.zip us)):iR P w K mg cls base (n+1) f m:=by
 obtain⟨ok,e⟩:=e;subst e;obtain⟨oc,od,kV,doc,pm,an,aU,ct,kz,l,c⟩:=F.ex;obtain⟨S,nm⟩:=i4 ok;refine El l c S (hb kV doc pm an aU ct) fun A s H hr=>mH (T.ct ⟨rfl,rfl,rfl,rfl,rfl,rfl⟩ hr) ⟨rfl,S.nd,nm,fun _ h=>h,fun _ h=>⟨h,rfl⟩,fun x h=>absurd rfl (S.ji (x,.free) (Pt h)),fun _ h=>h,fun x F h=>(by cases h)⟩ _
theorem Tab.add (T:Tab P w K mg cls base n Γ) (hF:iR P w K mg cls base (n+1) f m) (hm:mg x=some (.ref f)) (hk:PW K (.ref f)=true) (hd:(x == ("__debug__":Str))=false):Tab P w K mg cls base (n+1) (Γ.Cr x m):=by
 refine⟨fun y F q=>?_,T.co,T.us,T.fl,fun m mf q c C F hc hF=>let ⟨fa,h1,h2,h3⟩:=T.me m mf q c C F hc hF;⟨fa,h1,h2,h3.mono (RF n)⟩⟩;have z:VB y ((x,m)::Γ.fn)=some F:=q
 clear q;rw [Ph] at z;split at z
 ·rename_i e
  have:=eq_of_beq e;subst this;cases z;exact⟨hd,f,hF,hm,hk⟩
 ·obtain⟨h1,fa,h2,h3⟩:=T.fn y F z
  exact⟨h1,fa,h2.mono (RF n),h3⟩
theorem n8:∀{g:G} {vs:List OE} {ns:List Int},IntsAre vs ns->bz g (ns.map T.int) vs
 | _,_,_,.nil=>.nil
 | _,_,_,.cons n t h=>.cons (.int n t) (n8 h)
end
end M
namespace KR
open PySem PySem.W PySem.Calls PyProof.Rows
theorem iV {P:Params} {h:Heap}:∀(ns:List Int) (vs:List OE),WellAll P h vs (ns.map WData.int)->IntsAre vs ns:=by
 intro ns;induction ns with
 | nil =>
  intro vs w;rw [Qp] at w;cases w;exact .nil
 | cons n ns ih =>
  intro vs w;rw [OZ] at w;cases w with
  | cons a b =>
   cases a;exact .cons _ _ (ih _ b)
theorem tq {l:OpenLaw} {n:Nat} (hn:l.most=some n) {P:Params} {h:Heap} {args:List WData} {vals:List OE}
  (hpre:l.row.toRowW.claim.pre args=true) (hwl:WellAll P h vals args) :
  ∃a vs ns,vals=[Q4 a]/\args=[WData.list (ns.map WData.int)]/\h.get? a=some { cls:=.type "list",data:=.seq vs.toArray }/\IntsAre vs ns/\ns.length<=n:=by
 have MF:WShape.hasAll [] args [.list .int]=true:=(pre_splitW hpre).1;have hc:l.pre.holds [] { args:=args }=true:=(pre_splitW hpre).2
 obtain⟨d,r,rfl,h1,h2⟩:=hasAllW_cons MF;obtain rfl:=hasAllW_nil h2;obtain⟨xs,rfl,h3⟩:=hasW_list h1;obtain⟨ns,rfl⟩:=items_int h3;have hlen:ns.length<=n:=by
  unfold OpenLaw.pre at hc;have h4:(WTm.not (.lt (.lit (.int (n:Int))) (.len (.arg 0)))).holds [] { args:=[.list (ns.map .int)] }=true:=by
   have h4:=(holds_andW hc).1;rw [hn] at h4;exact h4
  have h5:=condW_of h4 (w_not (w_lt w_lit (w_len_list (w_arg rfl))));rw [Lm9] at h5;refine Nat.le_of_not_lt fun q=>?_
  have q':(n:Int)<((ns.length:Nat):Int):=by omega
  first
   | (rw [decide_eq_true q'] at h5;exact absurd h5 (by decide))
   | (simp at h5;omega)
 cases hwl with
 | cons w1 w2 =>
  cases w2;cases w1 with
  | list ho hall=>exact⟨_,_,ns,rfl,rfl,ho,iV ns _ hall,hlen⟩
theorem tu (l:OpenLaw) (args:List WData):l.row.toRowW.claim.post args (.bool true) args=true :=
 postW_of (r:=l.row.toRowW) (X:=(true == true))
  (show WShape.has [] (.bool true) .bool=true by first|rfl|decide|simp [WShape.has,WShape.arms,WShape.armsAll])
  (show(WTm.eq .res (.lit (.bool true))).value [] { args:=args,res:=some (.bool true),after:=args }=some (.bool (true == true)) from w_eq_bool (w_res rfl) w_lit) rfl
theorem og {l:OpenLaw} {n:Nat} {q:Pp} {loose:List Str} {XP:(Str->Option OE)->Heap->Prop} {YP:Qn->Heap->Prop} {d:DefRec}
  (hn:l.most=some n) (IG:d.params.defaults=[])
  (call:∀(w:Qn) (s₀ s₁:OH) (mg mb:Str->Option OE) (fa:Pf) (o:Obj) (pm cd doc:OE) (a:Pf) (vs:List OE) (ns:List Int),
   Ground q loose [] XP w s₀ mg mb s₁.heap->YP w s₁.heap ->
   s₁.heap.get? fa=some o->o.data=.func (docDef d.name d.params d.body d.scope pm cd doc)->s₁.heap.CodeRec cd d.name->mg d.name=some (.ref fa) ->
   s₁.heap.get? a=some { cls:=.type "list",data:=.seq vs.toArray }->IntsAre vs ns->ns.length<=n->s₁.gens = #[] ->
   codeAny (model l.prog w) callerA (.call (.ref fa) ⟨[.ref a],[]⟩) (fun r s'=>r=.ok (.ret (.bool true))/\OldK s₁.heap s'.heap/\s'.os=s₁.os/\AllBare s'.gens) s₁) :
  WalkO q loose XP YP l.row.toRowW d [] (fun f vs=>PySem.call f vs):=by
 intro w s₀ s₁ mg mb G Y fa o pm cd doc dV kV ho hd hcd hD hmg hg args vals as hpre hlay hrd hwl hlo;obtain rfl:dV=.none:=Dflts.none hD IG;obtain rfl:kV=.none:=Dflts.noKw hD;obtain⟨a,vs,ns,rfl,rfl,Cu,hints,hlen⟩:=tq hn hpre hwl;refine enter_call (codeAny_mono (call w s₀ s₁ mg mb fa o pm cd doc a vs ns G Y ho (fd_plain hd) hcd hmg Cu hints hlen hg) fun r s' hq=>?_);obtain⟨rfl,h2,h3,h4⟩:=hq;exact⟨.inl ⟨.bool true,.bool true,[],rfl,fun _=>rfl,.bool true,tu l _,fun _=>⟨SO,fun _ hm=>(nomatch hm)⟩⟩,h2,h3,h4⟩
end KR
namespace M
open PySem PySem.Spec PyProof.Rows
theorem Cw {K:O7} {x qual:Str} {st:Stmt} {f:Pf} {oc:OE} {od an:Option Pf} {kz:Array (Option OE)} {kV doc pm aU ct:OE} (l:K.lookup f=some ⟨oc,od,.func (P5 x qual (eW st) (bodyOf st) (ae st) .none kV doc pm an aU ct),kz⟩)
  (c:Rm K aU qual=true) (k:PW K (.ref f)=true):qf K x qual st f:=⟨⟨oc,od,kV,doc,pm,an,aU,ct,kz,l,c⟩,k⟩
noncomputable def IH (K:O7) (x:Str) (st:Stmt) (f:Pf):Prop:=QR K P0 x=some (some (.ref f))/\qf K x x st f
theorem yU {α β:Type} [BEq α] [LawfulBEq α] {Q:α->β->Prop} {x:α} {t:β} {l:List (α × β)} (h:Q x t) (r:∀y s,l.lookup y=some s->Q y s):∀y s,((x,t)::l).lookup y=some s->Q y s:=fun y s e=>by
 rw [Ph] at e;split at e
 ·rename_i q
  have:=eq_of_beq q;subst this;cases e;exact h
 ·exact r y s e
theorem b0 {Pr:List OE->Prop} (h:Pr []):∀us:List OE,us.length=0->Pr us:=fun us e=>by cases us;exact h;cases e
theorem bC {n:Nat} {Pr:List OE->Prop} (h:∀q us,us.length=n->Pr (q::us)):∀us:List OE,us.length=n+1->Pr us:=fun us e=>by
 cases us
 ·cases e
 ·exact h _ _ (Nat.succ.inj e)
section
variable {P:Pp} {w:Qn} {K:O7} {mg:Str->Option OE} {cls:Str->Option Pf} {base h:Heap} {n:Nat} {Γ:Ct} {x:Str} {st:Stmt} {f:Pf} {m:Fn}
theorem Tab.mono (T:Tab P w K mg cls base n Γ):Tab P w K mg cls base (n+1) Γ :=
 ⟨fun y F q=>let ⟨h1,fa,h2,h3⟩:=T.fn y F q;⟨h1,fa,h2.mono (RF n),h3⟩,T.co,T.us,T.fl,fun m mf q c C F hc hF=>let ⟨fa,h1,h2,h3⟩:=T.me m mf q c C F hc hF;⟨fa,h1,h2,h3.mono (RF n)⟩⟩
end
noncomputable def AllP {α:Type} (p:α->Prop):List α->Prop
 | []=>True
 | a::r=>p a/\AllP p r
theorem AllP.of {α:Type} {p:α->Prop}:∀{l:List α},AllP p l->∀a∈l,p a
 | _::_,h,a,m=>by
  rcases OS.mp m with rfl|m
  ·exact h.1
  ·exact AllP.of h.2 a m
noncomputable def tp (B:List Stmt) (i:Nat):Stmt:=B.getD i (.Pass ⟨0,0,0,0⟩)
noncomputable def hO (s:Stmt):List Str:=(eW s).args.map (·.arg)
mutual
noncomputable def tx (K:O7):T->OE->Prop
 | .bl b,u=>u=.bool b
 | .int i,u=>∃t,u=.int i t
 | .str s,u=>s.length<=O6/\∃t,u=.str ⟨s.toArray⟩ t
 | .tup xs,u=>∃a us n s,u=.ref a/\K.lookup a=some ⟨.type "tuple",none,.seq us n,s⟩/\xs.length<=O6/\dm K xs us.toList
 | _,_=>False
noncomputable def dm (K:O7):List T->List OE->Prop
 | [],us=>us=[]
 | x::xs,us=>∃v vs,us=v::vs/\tx K x v/\dm K xs vs
end
mutual
theorem tx.rt {K:O7} {g:G} (KB:K.In g.B):∀(t:T) (u:OE),tx K t u->RT g none t u
 | .bl b,u,h=>(show u=.bool b from h) ▸ .bl b
 | .int i,u,h=>by obtain⟨t,rfl⟩:∃t,u=.int i t:=h;exact .int i t
 | .str s,u,h=>by obtain⟨h,t,rfl⟩:s.length<=O6/\∃t,u=.str ⟨s.toArray⟩ t:=h;exact .str s t h
 | .tup xs,u,h=>by
  obtain⟨a,us,n,s,rfl,l,hz,r⟩:∃a us n s,u=.ref a/\K.lookup a=some ⟨.type "tuple",none,.seq us n,s⟩/\xs.length<=O6/\dm K xs us.toList:=h;exact bz.tup (us:=us.toList) (n:=n) (dm.rt KB xs _ r) (.refl _) (.inr ⟨rfl,KB _ _ l⟩) ⟨rfl,rfl⟩ (by simp) hz
 | .bK,_,h=>(show False from h).elim
 | .cl _,_,h=>(show False from h).elim
 | .ref _,_,h=>(show False from h).elim
 | .lst _,_,h=>(show False from h).elim
 | .aO _,_,h=>(show False from h).elim
 | .obj _ _,_,h=>(show False from h).elim
theorem dm.rt {K:O7} {g:G} (KB:K.In g.B):∀(xs:List T) (us:List OE),dm K xs us->bz g xs us
 | [],us,h=>(show us=[] from h) ▸ .nil
 | x::xs,us,h=>by
  obtain⟨v,vs,rfl,h1,h2⟩:∃v vs,us=v::vs/\tx K x v/\dm K xs vs:=h;exact .cons (tx.rt KB x v h1) (dm.rt KB xs vs h2)
end
inductive Df
 | f (b:Bool) (x:Str) (k i:Nat) (m:Fn)
def KS:Bool->Nat->Nat->SS->Fn
 | _=>run
noncomputable def BA (k:Nat) (x q:Str) (st:Stmt):Prop:=∀(kV doc pm:OE) (an:Option Pf) (aU ct:OE) (us:List OE),us.length=k->bindArgs (P5 x q (eW st) (bodyOf st) (ae st) .none kV doc pm an aU ct) ⟨us,[]⟩=pure ((hO st).zip us)
structure II (b:Bool) (k:Nat) (Γ:Ct) (x q:Str) (st:Stmt) (m:Fn):Prop where
 d:(n6 (hO st) (ae st) && (hO st).length == k && !(x == ("__debug__":Str)))=true
 e:KS b k (dK (hO st) (ae st)).length (code Γ ⟨dK (hO st) (ae st),ae st,[]⟩ (bodyOf st))=m
 a:BA k x q st
noncomputable def Df.ok (B:List Stmt) (Γ:Ct):Df->Prop
 | .f b x k i m=>II b k Γ x x (tp B i) m
def Df.add (Γ:Ct):Df->Ct
 | .f _ x _ _ m=>Γ.Cr x m
noncomputable def Df.n:Df->Nat
 | _=>1
def adds:Ct->List Df->Ct
 | Γ,[]=>Γ
 | Γ,d::ds=>adds (d.add Γ) ds
noncomputable def dep:List Df->Nat
 | []=>0
 | d::ds=>d.n+dep ds
noncomputable def Cy (B:List Stmt):Ct->List Df->Prop
 | _,[]=>True
 | Γ,d::ds=>d.ok B Γ/\Cy B (d.add Γ) ds
noncomputable def DU (B:List Stmt) (K:O7) (cn:List Str):Df->Prop
 | .f _ x _ i _=>∃f,IH K x (tp B i) f
noncomputable def Ah (K:O7) (p:Str × T):Prop:=∃u,QR K P0 p.1=some (some u)/\tx K p.2 u
noncomputable def Hu (K:O7) (x:Str):Prop:=QR K P0 x=some none
noncomputable def Fj (K:O7) (fl:List Str) (c:Str):Prop:=∃C,QR K P0 c=some (some (.ref C))/\Hh K C/\PySem.W.makesIn K C=true/\PW K (.ref C)=true/\AllP (uw K C) fl
noncomputable def mI (K:O7) (cn:List Str) (c:Str):Option Pf:=match cn.contains c,QR K P0 c with
 | true,some (some (.ref C))=>some C
 | _,_=>none
theorem vN {K:O7} {cn:List Str} {c:Str} {C:Pf} (h:mI K cn c=some C):c∈cn/\QR K P0 c=some (some (.ref C)):=by
 unfold mI at h;split at h
 ·rename_i h1 h2
  cases h;exact⟨by simpa using h1,h2⟩
 ·cases h
section
variable {P:Pp} {w:Qn} {K:O7} {mg:Str->Option OE} {base h:Heap} {B:List Stmt} {cn fl:List Str}
theorem II.fn {cls:Str->Option Pf} {n k:Nat} {Γ:Ct} {x q:Str} {st:Stmt} {f:Pf} {m:Fn} {b:Bool} (D:II b k Γ x q st m) (T:Tab P w K mg cls base n Γ) (F:qf K x q st f):iR P w K mg cls base (n+1) f m/\(x == ("__debug__":Str))=false:=by
 obtain⟨d,e,a⟩:=D;simp only [ON,beq_iff_eq,RR] at d;obtain⟨⟨d,rfl⟩,d2⟩:=d;refine⟨?_,d2⟩;exact T.IF F ⟨d,e⟩ a
theorem Tab.all (X:K.In h) (G:h.Ns P0 mg) (hc:AllP (Fj K fl) cn):∀(ds:List Df) {n:Nat} {Γ:Ct},Tab P w K mg (mI K cn) base n Γ->Cy B Γ ds->AllP (DU B K cn) ds->Tab P w K mg (mI K cn) base (n+dep ds) (adds Γ ds)
 | [],_,_,T,_,_=>by exact T
 | .f b x k i m::ds,n,Γ,T,o,p=>by
  obtain⟨⟨f,F⟩,p⟩:=p;obtain⟨h1,h2⟩:=o.1.fn T F.2;have:=Tab.all X G hc ds (T.add h1 (So X G F.1) F.2.kp h2) o.2 p
  rw [QW] at this;exact this
theorem Cz {α:Type} {p:α->Prop}:AllP p []:=trivial
theorem IJ {Γ:Ct}:Cy B Γ []:=trivial
theorem IK {x:Str} {l:List Str} (h:QR K P0 x=some none) (r:AllP (Hu K) l):AllP (Hu K) (x::l):=⟨h,r⟩
theorem IL {x:Str} {b:Bool} {k i:Nat} {m:Fn} {ds:List Df} {f:Pf} {oc:OE} {od an:Option Pf} {kz:Array (Option OE)} {kV doc pm aU ct:OE} (n:QR K P0 x=some (some (.ref f))) (l:K.lookup f=some ⟨oc,od,.func (P5 x x (eW (tp B i)) (bodyOf (tp B i)) (ae (tp B i)) .none kV doc pm an aU ct),kz⟩)
  (c:Rm K aU x=true) (kp:PW K (.ref f)=true) (r:AllP (DU B K cn) ds):AllP (DU B K cn) (.f b x k i m::ds):=⟨⟨f,n,Cw l c kp⟩,r⟩
theorem tA {Γ:Ct} {b:Bool} {x:Str} {k i:Nat} {m:Fn} {ds:List Df} (r:Cy B (Γ.Cr x m) ds) (d:(n6 (hO (tp B i)) (ae (tp B i)) && (hO (tp B i)).length == k && !(x == ("__debug__":Str)))=true:=by decide +kernel) (e:KS b k (dK (hO (tp B i)) (ae (tp B i))).length (code Γ ⟨dK (hO (tp B i)) (ae (tp B i)),ae (tp B i),[]⟩ (bodyOf (tp B i)))=m:=by kernel_rfl) (a:BA k x x (tp B i):=by intro _ _ _ _ _ _;(repeat refine bC fun _=>?_);exact b0 (by kernel_rfl)):Cy B Γ (.f b x k i m::ds):=⟨⟨d,e,a⟩,r⟩
theorem IM {x:Str} {s:Cs} {t:Tok} {l:List (Str × T)} (h:QR K P0 x=some (some (.str ⟨s.toArray⟩ t))) (z:s.length<=O6) (r:AllP (Ah K) l):AllP (Ah K) ((x,.str s)::l):=⟨⟨_,h,by rw [tx];exact⟨z,t,rfl⟩⟩,r⟩
theorem MG {x:Str} {i:Int} {t:Tok} {l:List (Str × T)} (h:QR K P0 x=some (some (.int i t))) (r:AllP (Ah K) l):AllP (Ah K) ((x,.int i)::l):=⟨⟨_,h,by rw [tx];exact⟨t,rfl⟩⟩,r⟩
theorem IP {x:Str} {xs:List T} {a:Pf} {us:Array OE} {n:Nat} {s:Array (Option OE)} {l:List (Str × T)} (h:QR K P0 x=some (some (.ref a))) (e:K.lookup a=some ⟨.type "tuple",none,.seq us n,s⟩) (z:xs.length<=O6) (q:dm K xs us.toList) (r:AllP (Ah K) l):AllP (Ah K) ((x,.tup xs)::l):=⟨⟨_,h,by rw [tx];exact⟨a,us,n,s,rfl,e,z,q⟩⟩,r⟩
theorem yV:dm K [] []:=by rw [dm]
theorem MH {s:Cs} {t:Tok} {xs:List T} {vs:List OE} (z:s.length<=O6) (q:dm K xs vs):dm K (.str s::xs) (.str ⟨s.toArray⟩ t::vs):=by rw [dm];exact⟨_,_,rfl,by rw [tx];exact⟨z,t,rfl⟩,q⟩
theorem IQ {b:Bool} {xs:List T} {vs:List OE} (q:dm K xs vs):dm K (.bl b::xs) (.bool b::vs):=by rw [dm];exact⟨_,_,rfl,by rw [tx],q⟩
theorem MI {i:Int} {t:Tok} {xs:List T} {vs:List OE} (q:dm K xs vs):dm K (.int i::xs) (.int i t::vs):=by rw [dm];exact⟨_,_,rfl,by rw [tx];exact⟨t,rfl⟩,q⟩
theorem CA {ys:List T} {a:Pf} {us:Array OE} {n:Nat} {s:Array (Option OE)} {xs:List T} {vs:List OE} (e:K.lookup a=some ⟨.type "tuple",none,.seq us n,s⟩) (z:ys.length<=O6) (p:dm K ys us.toList) (q:dm K xs vs):dm K (.tup ys::xs) (.ref a::vs):=by rw [dm];exact⟨_,_,rfl,by rw [tx];exact⟨a,us,n,s,rfl,e,z,p⟩,q⟩
end
abbrev d6 (l:List Env):List Pf:=l.filterMap (·.frame)
theorem fE (env:Env) (l:List Env) {a:Pf} (h:env.frame=some a):d6 (env::l)=a::d6 l:=by
 unfold d6;rw [Tp,h]
noncomputable def tZ (base:Heap) (l:List Env) (g:G) (h:Heap):Prop:=∀env∈l,env.scope.kind≠.module/\∃a o es ep,env.frame=some a/\base.get? a=none/\h.get? a=some o/\o.data=.dict es ep/\StrKeys es/\g.H a=none
noncomputable def jW (base h0:Heap) (l:List Env) (P:ar):Prop:=∀env∈l,env.scope.kind≠.module/\∃a o es ep,env.frame=some a/\base.get? a=none/\(a,o)∈P/\o.data=.dict es ep/\StrKeys es/\∃o0 sl,h0.get? a=some o0/\o={ o0 with slots:=sl }
section
variable {base h h':Heap} {l:List Env} {g:G} {P:ar}
theorem tZ.Fl:∀{l:List Env},tZ base l g h->h.FunFrames base l
 | [],_=>trivial
 | env::l,S=>by
  obtain⟨k,a,o,es,ep,f,b,e,d,_⟩:=S env OI;exact⟨k,⟨a,o,f,b,e,fun vs z=>by rw [d] at z;cases z⟩,tZ.Fl fun x hx=>S x (OG _ hx)⟩
theorem tZ.at_ (S:tZ base l g h) {b:Pf} (hb:b∈d6 l):∃o es ep,h.get? b=some o/\o.data=.dict es ep/\StrKeys es/\g.H b=none/\base.get? b=none:=by
 obtain⟨env,he,hf⟩:=QA.mp hb;obtain⟨_,a,o,es,ep,f,b0,e,d,k,n⟩:=S env he;rw [hf] at f;cases f;exact⟨o,es,ep,e,d,k,n,b0⟩
theorem tZ.pins:∀{l:List Env},tZ base l g h->∃P:ar,jW base h l P/\∀p∈P,p.1∈d6 l/\h.get? p.1=some p.2/\g.H p.1=none/\∀v,p.2.data≠.cell v
 | [],_=>⟨[],fun _ z=>(by cases z),fun _ z=>(by cases z)⟩
 | env::l,S=>by
  obtain⟨k,a,o,es,ep,f,b,e,d,q,n⟩:=S env OI;obtain⟨P,c,hp⟩:=tZ.pins fun x hx=>S x (OG _ hx)
  refine⟨(a,o)::P,fun x hx=>?_,fun p yW=>?_⟩
  ·rcases OS.mp hx with rfl|hx
   ·exact⟨k,a,o,es,ep,f,b,OI,d,q,o,o.slots,e,rfl⟩
   ·obtain⟨k,a,o,es,ep,f,b,m,d⟩:=c x hx
    exact⟨k,a,o,es,ep,f,b,OG _ m,d⟩
  ·rw [fE env l f]
   rcases OS.mp yW with rfl|yW
   ·exact⟨OI,e,n,fun v z=>by rw [d] at z;cases z⟩
   ·obtain⟨h1,h2,h3,h4⟩:=hp p yW
    exact⟨OG _ h1,h2,h3,h4⟩
end
structure CB (l:List Env) (g:G) (s:OH) (L:Live) (C x:Pf) (s':OH):Prop where
 os:s'.os=s.os
 bare:AllBare s'.gens
 ex:∃(B:Heap) (a0:OE) (g':G),Heap.FlyingW B l x (.ref C) a0 s'.heap/\HOk g'.H B/\Le g g'/\Rel g' L/\(∀b o,s.heap.get? b=some o->g.H b=none->b∉d6 l->B.get? b=some o)/\∀b o,s.heap.get? b=some o->g.H b=none->g'.H b=none
 slot:∀b o,s.heap.get? b=some o->g.H b=none->b∈d6 l->∃sl,s'.heap.get? b=some { o with slots:=sl }
section
variable {X:Cx} {P:ar} {φ:Fr} {g g₀:G} {L:Live} {s s':OH} {l:List Env} {h1:Heap} {e C x:Pf} {vs:List OE} {E:OE->OH->Prop}
theorem Inv.tB (I:Inv X P φ g L s) (hf:X.env.frame=some X.env.locals) (cv:jW X.base X.s₀.heap l P):tZ X.base (X.env::l) g s.heap:=fun env he=>by
 rcases OS.mp he with rfl|he
 ·obtain⟨m,⟨o,es,ep,ho,hd,hs,_⟩,_⟩:=I.loc
  refine⟨by rw [I.ok.kind];decide,_,o,es,ep,hf,?_,ho,hd,hs,I.free⟩;cases q:X.base.get? X.env.locals with
  | none=>rfl
  | some o'=>exact absurd (O5 (O4 q) (Pq I.ok.bsz I.ok.above)) (Qj _)
 ·obtain⟨k,a,o,es,ep,f,b,m,d,q,_⟩:=cv env he
  obtain⟨p1,p2,_⟩:=I.pin _ m;exact⟨k,a,o,es,ep,f,b,p1,d,q,p2⟩
theorem Inv.made (I:Inv X P φ g L s) (hH:g₀.H=X.H₀) (l0:Le g₀ g) (hex:X.ex=[]) (hA:X.A.frames=some (X.env::l)) (hf:X.env.frame=some X.env.locals) (cv:jW X.base X.s₀.heap l P) (hx:Heap.MadeExcOf s.heap h1 e (.ref C) vs) :
  O3 (model X.prog X.w) X.A (leaving X.env (.ref e)) (fun _ s'=>CB l g₀ X.s₀ L C e s') E { s with heap:=h1 }:=by
 have S:=I.tB hf cv;have st:d6 (X.env::l)=X.env.locals::d6 l:=fE _ _ hf
 have Et:∀env∈X.env::l,∀b,env.frame=some b->b∈d6 (X.env::l):=fun env he b hb=>QA.mpr ⟨env,he,hb⟩
 have get:∀b o,s.heap.get? b=some o->b∉d6 (X.env::l)->(U3 s.heap (d6 (X.env::l))).get? b=some o:=fun b o q hb=>PySem.W.hideAll_get _ q hb
 have old:∀b o,X.s₀.heap.get? b=some o->b∉d6 l->b∉d6 (X.env::l):=fun b o q hb hm=>by
  rw [st] at hm;rcases OS.mp hm with z|z
  ·exact O8 (O5 (O4 q) I.ok.above) z
  ·exact hb z
 have DV:∀b:Pf,b∉X.ex:=fun b z=>by rw [hex] at z;cases z
 refine wpAny_leaves_madeW (base:=U3 s.heap (d6 (X.env::l))) (h:=s.heap) (L:=X.env.locals) hA hf (fun b o q=>PySem.W.of_hideAll _ q) (PySem.W.funFrames_hide S.Fl Et) hx fun h2 t fl ht hn sm=>?_
 have hok:HOk g.H (U3 s.heap (d6 (X.env::l))):=fun a b o q=>get a o (I.hok a b o q) fun hm=>by
  obtain⟨_,_,_,_,_,_,n,_⟩:=S.at_ hm
  rw [q] at n;cases n
 refine⟨I.os,I.bare,⟨_,_,g,fl,hok,l0,I.rel,fun b o q n hb=>get b o (I.base.keep b o q (by rw [<- hH];exact n) (DV b)) (old b o q hb),fun b o q n=>I.base.free b o q (by rw [<- hH];exact n) (DV b)⟩,fun b o q n hb=>?_⟩;have q1:=I.base.keep b o q (by rw [<- hH];exact n) (DV b)
 obtain⟨o3,es,ep,e3,hd,_⟩:=S.at_ (by rw [st];exact OG _ hb:b∈d6 (X.env::l))
 rw [q1] at e3;cases e3;exact sm b _ (hx.keeps b _ q1) fun vs z=>by rw [hd] at z;cases z
theorem Inv.pass (I:Inv X P φ g L s) (hH:g₀.H=X.H₀) (l0:Le g₀ g) (hex:X.ex=[]) (hA:X.A.frames=some (X.env::l)) (hf:X.env.frame=some X.env.locals) (cv:jW X.base X.s₀.heap l P) (F:CB (X.env::l) g s L C x s') :
  O3 (model X.prog X.w) X.A (leaving X.env (.ref x)) (fun _ s'=>CB l g₀ X.s₀ L C x s') E s':=by
 have S:=I.tB hf cv;have st:d6 (X.env::l)=X.env.locals::d6 l:=fE _ _ hf
 have old:∀b o,X.s₀.heap.get? b=some o->b∉d6 l->b∉d6 (X.env::l):=fun b o q hb hm=>by
  rw [st] at hm;rcases OS.mp hm with z|z
  ·exact O8 (O5 (O4 q) I.ok.above) z
  ·exact hb z
 have DV:∀b:Pf,b∉X.ex:=fun b z=>by rw [hex] at z;cases z
 obtain⟨B,a0,g',fl,hok,l1,rel,kp,fr⟩:=F.ex;refine wpAny_leaves_onW (L:=X.env.locals) hA hf fl fun h2 IS sm=>?_
 have kk:∀b o,X.s₀.heap.get? b=some o->g₀.H b=none->s.heap.get? b=some o/\g.H b=none:=fun b o q n=>⟨I.base.keep b o q (by rw [<- hH];exact n) (DV b),I.base.free b o q (by rw [<- hH];exact n) (DV b)⟩
 refine⟨F.os.trans I.os,F.bare,⟨B,a0,g',IS,hok,l0.trans l1,rel,fun b o q n hb=>kp b o (kk b o q n).1 (kk b o q n).2 (old b o q hb),fun b o q n=>fr b o (kk b o q n).1 (kk b o q n).2⟩,fun b o q n hb=>?_⟩;have hb':b∈d6 (X.env::l):=by rw [st];exact OG _ hb
 obtain⟨sl,q2⟩:=F.slot b o (kk b o q n).1 (kk b o q n).2 hb';obtain⟨o3,es,ep,e3,hd,_⟩:=S.at_ hb'
 rw [(kk b o q n).1] at e3;cases e3;obtain⟨sJ,q3⟩:=sm b _ q2 fun vs z=>by have z:o.data=.fields vs:=z;rw [hd] at z;cases z
 exact⟨sJ,q3⟩
end
theorem CC {K:O7} {h:Heap} {C:Pf} {KU:List OE} {newId:String} (X:K.In h) (q:RU K C KU newId=true) :
  ∃(bm:List OE) (Nn:Pf) (n1 n2:Str) (bs:List OE) (hd:Bool) (sn:List Str) (sub:List OE) (ab:Bool) (col:Option Bool) (dd:Option Pf) (k0 k1 k2 k3 k5:Option OE) (mN:Str->Option OE),
   h.get? C=some (excClassObj n1 n2 C Nn bs bm hd sn sub ab col dd k0 k1 k2 k3 k5 newId)/\h.Ns Nn mN/\mN "__init__"=none/\OwnTail h KU bm:=by
 unfold RU at q;split at q
 ·rename_i dd IT sl look
  split at q
  ·rename_i C1 bm k0 k1 k2 k3 nn k5 Fm MJ
   simp only [ON,beq_iff_eq,RR] at q;obtain⟨⟨⟨⟨⟨q1,q2⟩,q3⟩,q4⟩,q5⟩,q6⟩:=q;subst q1;subst q2;obtain⟨c1,c2,c3,c4,c5,c6,c7,c8,c9,MK,Oi⟩:=IT;dsimp only at Fm q3 q5 q6;subst Fm;subst q3;obtain⟨ML⟩:=sl;have es:ML=[k0,k1,k2,k3,some (.builtin nn),k5]:=MJ
   subst es;exact⟨bm,c4,c1,c5,c2,c6,c7,c8,c9,MK,dd,k0,k1,k2,k3,k5,_,X _ _ look,.of_isNs (PySem.W.isNs_of_in X q5),PySem.W.nsMap_none_of_in X q5 q6,PySem.W.tail_of_in X q4⟩
  ·cases q
 ·cases q
abbrev N0 {α:Type}:α->OH->Prop:=fun _ _=>False
noncomputable def XE (X:Cx) (g₀:G) (l:List Env) (L:Live) (C:Pf) (e:OE) (s':OH):Prop:=∃x,e=.ref x/\O3 (model X.prog X.w) X.A (leaving X.env e) (fun _ tV=>CB l g₀ X.s₀ L C x tV) F0 s'
structure BX (X:Cx) (g₀:G) (l:List Env):Prop where
 hH:g₀.H=X.H₀
 ex:X.ex=[]
 fr:X.A.frames=some (X.env::l)
 lf:X.env.frame=some X.env.locals
 gd:X.A.guards=some []
abbrev Rz:=Fr->Live->Pf->Prop
noncomputable def PX (X:Cx) (st:Stmt) (mr:Rz):Prop:=∀{P:ar} {φ:Fr} {g g₀:G} {L:Live} {s:OH} {C:Pf} {l:List Env},BX X g₀ l->Inv X P φ g L s->Le g₀ g->jW X.base X.s₀.heap l P->mr φ L C->O3 (model X.prog X.w) X.A (exec st X.env) N0 (XE X g₀ l L C) s
noncomputable def Ai (X:Cx) (st:List Stmt) (mr:Rz):Prop:=∀{P:ar} {φ:Fr} {g g₀:G} {L:Live} {s:OH} {C:Pf} {l:List Env},BX X g₀ l->Inv X P φ g L s->Le g₀ g->jW X.base X.s₀.heap l P->mr φ L C->O3 (model X.prog X.w) X.A (execs st X.env) N0 (XE X g₀ l L C) s
noncomputable def DW (X:Cx) (e:Expr) (mr:Rz):Prop:=∀{P:ar} {φ:Fr} {g g₀:G} {L:Live} {s:OH} {C:Pf} {l:List Env},BX X g₀ l->Inv X P φ g L s->Le g₀ g->jW X.base X.s₀.heap l P->mr φ L C->O3 (model X.prog X.w) X.A (eval e X.env) N0 (XE X g₀ l L C) s
noncomputable def DX (X:Cx) (e:Expr) (mr:Rz):Prop:=∀{P:ar} {φ:Fr} {g g₀:G} {L:Live} {s:OH} {C:Pf} {l:List Env},BX X g₀ l->Inv X P φ g L s->Le g₀ g->jW X.base X.s₀.heap l P->mr φ L C->O3 (model X.prog X.w) X.A (isTrue e X.env (eval e X.env)) N0 (XE X g₀ l L C) s
noncomputable def XR (l:List Env) (g:G) (s:OH) (L:Live) (C:Pf) (r:Result) (s':OH):Prop:=match r with
 | .error e=>∃x,e=.ref x/\CB l g s L C x s'
 | _=>False
noncomputable def yX (P:Pp) (w:Qn) (K:O7) (mg:Str->Option OE) (cls:Str->Option Pf) (base:Heap) (k:Nat) (f:Pf) (mr:List T->Live->Pf->Prop):Prop :=
 ∀{A:Pm} {s:OH} {g:G} {L:Live} {us:List OE} {xs:List T} {C:Pf} {l:List Env},bY k A->A.guards=some []->A.frames=some l->Env0 P w K mg cls base s g L->tZ base l g s.heap->bz g xs us->mr xs L C->codeAny (model P w) A (.call (.ref f) ⟨us,[]⟩) (XR l g s L C) s
abbrev Fo:List OE:=[.type "ValueError",.type "Exception",.type "BaseException",.type "object"]
abbrev vO:String:="ValueError.__new__"
section
variable {X:Cx} {st:Stmt} {rest sa sb:List Stmt} {mr:Rz} {e a:Expr} {es:List Expr} {x:Str} {p pos np A5:Pos} {C:Pf} {ms:List SE} {k:Nat} {f:Pf}
noncomputable def CD (C:Pf) (ms:List SE):Rz:=fun φ L c=>c=C/\∃ts,d5 ms φ L=.ok ts L/\ts.length<=O6
theorem vP (ex:RU X.K C Fo vO=true) (hg:Gl X x) (hm:X.mg x=some (.ref C)) (ha:PA X (e::es) (d5 ms)) (hs:(e::es).all aC=true) (pz:(x == ("__debug__":Str))=false) :
  PX X (.Raise (some (.Call (.Name x np) (e::es) [] A5)) none pos) (CD C ms):=fun {P φ g g₀ L s c l} b I l0 cv h=>by
 obtain⟨rfl,ts,h1,h2⟩:=h;obtain⟨bm,Nn,n1,n2,bs,hd,sn,sub,ab,col,dd,k0,k1,k2,k3,k5,mN,gC,gN,gi,gT⟩:=CC I.mod.zP ex;refine wpAny_Raise_call_subU (C:=c) (nm:=n1) (q:=n2) (N:=Nn) (bs:=bs) (bm:=bm) (hdct:=hd) (sn:=sn) (sub:=sub) (ab:=ab) (col:=col) (dd:=dd) (k0:=k0) (k1:=k1) (k2:=k2) (k3:=k3) (k5:=k5) (mN:=mN)
  TK (by decide +kernel) TK (gT.hasType (by decide +kernel)) I.ok.hd (aP hs) gi (a7 (eK I hg hm ⟨rfl,?_⟩ pz) fun _ _ z=>z)
 rw [PK,ON] at hs;have hA:=ha A5 I h1
 rw [ah hs.1] at hA ⊢;refine U5 (a7 hA fun us s2 ⟨g2,l2,I2,r2⟩=>⟨rfl,?_,I2.bk _ _ gC,gN.keeps I2.bk,gT.keeps I2.bk,fun h' x' hx=>⟨x',rfl,I2.made b.hH (l0.trans l2) b.ex b.fr b.lf cv hx⟩⟩);show us.length<=O6
 rw [<- OX r2];exact h2
theorem vQ (h:PX X st mr):Ai X (st::rest) mr:=fun {_ _ _ _ _ _ _ _} b I l0 cv q=>wpAny_execs_cons (wpAny_mono (h b I l0 cv q) (fun _ _ z=>z.elim) fun _ _ z=>z)
noncomputable def Fp (m:SS) (mr:Rz):Rz:=fun φ L c=>∃φ',m φ L=.nx φ' L/\mr φ' L c
theorem vR {m:SS} (h1:PS X st m) (h2:Ai X rest mr):Ai X (st::rest) (Fp m mr):=fun {P φ g g₀ L s c l} b I l0 cv q=>by
 obtain⟨φ',e,q⟩:=q;refine wpAny_execs_cons (a7 (h1 I (by rw [e];exact fun z=>by cases z)) fun fl s1 z=>?_);rw [e] at z;obtain⟨g',l1,z⟩:=z;cases fl <;> first|exact z.elim|exact h2 b z (l0.trans l1) cv q
noncomputable def MM (k:ST) (mr:Rz):Rz:=fun φ L c=>k φ L=.ok true L/\mr φ L c
theorem Fq {mk:ST} (hk:PT X a mk) (h:Ai X sa mr):PX X (.If a sa sb pos) (MM mk mr):=fun {P φ g g₀ L s c l} b I l0 cv q=>by
 refine wpAny_If (a7 (hk _ (.inl rfl) I q.1) fun d s1 ⟨g1,l1,I1,e⟩=>?_);subst e;exact h b I1 (l0.trans l1) cv q.2
noncomputable def Ft (k:ST) (mr:Rz):Rz:=fun φ L c=>k φ L=.ok false L/\mr φ L c
theorem yY {mk:ST} (hk:PT X a mk) (h:Ai X sb mr):PX X (.If a sa sb pos) (Ft mk mr):=fun {P φ g g₀ L s c l} b I l0 cv q=>by
 refine wpAny_If (a7 (hk _ (.inl rfl) I q.1) fun d s1 ⟨g1,l1,I1,e⟩=>?_);subst e;exact h b I1 (l0.trans l1) cv q.2
theorem yZ (h:DX X a mr):PX X (.If a sa sb pos) mr:=fun {_ _ _ _ _ _ _ _} b I l0 cv q=>wpAny_If (wpAny_mono (h b I l0 cv q) (fun _ _ z=>z.elim) fun _ _ z=>z)
theorem y0 (h:DX X a mr):DX X (.UnaryOp .Not a pos) mr:=fun {_ _ _ _ _ _ _ _} b I l0 cv q=>isTrue_not (wpAny_mono (h b I l0 cv q) (fun _ _ z=>z.elim) fun _ _ z=>z)
theorem y4 (h:DW X a mr) (he:isTrue a X.env (eval a X.env)=(do let v <- eval a X.env;standAt a.pos;holding [v] (truthy v))):DX X a mr:=fun {_ _ _ _ _ _ _ _} b I l0 cv q=>isTrue_plain (wpAny_mono (h b I l0 cv q) (fun _ _ z=>z.elim) fun _ _ z=>z) he
theorem CF (h:DW X e mr) (hs:fP e=true):PX X (.Expr e pos) mr:=fun {_ _ _ _ _ _ _ _} b I l0 cv q=>wpAny_Expr_any (wpAny_mono (h b I l0 cv q) (fun _ _ z=>z.elim) fun _ _ z=>z) I.quiet (fq hs)
theorem CG (h:DW X e mr):PX X (.Return (some e) pos) mr:=fun {_ _ _ _ _ _ _ _} b I l0 cv q=>wpAny_Return_some (wpAny_mono (h b I l0 cv q) (fun _ _ z=>z.elim) fun _ _ z=>z)
noncomputable def Fu (mr:List T->Live->Pf->Prop) (ms:List SE):Rz:=fun φ L c=>∃ts,d5 ms φ L=.ok ts L/\mr ts L c
theorem y5 {mr:List T->Live->Pf->Prop} (hF:yX X.prog X.w X.K X.mg X.cls X.base k f mr) (hr:bY k X.A) (hg:Gl X x) (hm:X.mg x=some (.ref f)) (hk:PW X.K (.ref f)=true) (ha:PA X (e::es) (d5 ms)) (hs:(e::es).all aC=true) (pz:(x == ("__debug__":Str))=false) :
  DW X (.Call (.Name x p) (e::es) [] pos) (Fu mr ms):=fun {P φ g g₀ L s c l} b I l0 cv q=>by
 obtain⟨ts,e1,q⟩:=q;rw [PK,ON] at hs;refine wpAny_Call_Name_kw (a7 (eK I hg hm (Sb (h₀:=X.base) I.ok.mod.zP hk (a7 (ha pos I e1) fun us s1 ⟨g1,l1,I1,r1⟩=>⟨I1.DD,?_⟩) (ah hs.1) (aP hs.2)) pz) fun _ _ z=>z);refine wpAny_call (codeAny_mono (hF hr b.gd b.fr I1.xY (I1.tB b.lf cv) r1 q) fun r s' hq=>?_);cases r with
 | ok fl=>cases fl <;> exact SF hq
 | error e =>
  obtain⟨x,rfl,F⟩:=hq;exact⟨x,rfl,I1.pass b.hH (l0.trans l1) b.ex b.fr b.lf cv F⟩
end
section
variable {P:Pp} {w:Qn} {K:O7} {mg:Str->Option OE} {cls:Str->Option Pf} {base:Heap} {N ps:List Str} {qual:Str} {scope:Scope} {f:Pf} {cd:OE} {A:Pm} {s s1:OH} {g:G} {L:Live}
theorem jH {k:Nat} {name:Str} {params:Arguments} {body:List Stmt} {dV kV doc pm aU ct oc:OE} {an od:Option Pf} {kz:Array (Option OE)} {us:List OE} {xs:List T} {R:Result->OH->Prop} (lk:K.lookup f=some ⟨oc,od,.func (P5 name qual params body scope dV kV doc pm an aU ct),kz⟩) (hcd:Rm K aU qual=true) (S:eO N ps scope)
  (gQ:∀us:List OE,us.length=ps.length->bindArgs (P5 name qual params body scope dV kV doc pm an aU ct) ⟨us,[]⟩=pure (ps.zip us)) (hr:bY (k+1) A) (e0:Env0 P w K mg cls base s g L) (r:bz g xs us) (hl:xs.length=ps.length)
  (h:∀s1,Inv (jX P w K mg cls base N qual scope f aU A s g.H) [] (xs.map some++Pd (N.length - ps.length) none) g L s1->(∀b o,s.heap.get? b=some o->s1.heap.get? b=some o)->O3 (model P w) (A.deeper (envOfC qual scope s.heap.objs.size f aU)) (execs body (envOfC qual scope s.heap.objs.size f aU)) (fun fl s'=>R (.ok (.ret (match fl with|.ret v=>v|_=>.none))) s')
   (fun e s'=>O3 (model P w) (A.deeper (envOfC qual scope s.heap.objs.size f aU)) (leaving (envOfC qual scope s.heap.objs.size f aU) e) (fun _ tV=>R (.error e) tV) (fun e' tV=>R (.error e') tV) s') s1):codeAny (model P w) A (.call (.ref f) ⟨us,[]⟩) R s:=by
 have HN:us.length=ps.length:=by rw [<- OX r];exact hl
 have KX:K.In s.heap:=e0.mod.zP.keeps fun b o e=>(e0.bs b o e).1
 have lim:s.heap.NoLimit:=e0.mod.nolimit.keeps fun b o e=>(e0.bs b o e).1
 have hkind:∀y∈ps.zip us,scope.names.lookup y.1=some .local\/(scope.names.lookup y.1=some .cell/\((cellsFrom (s.heap.objs.size+1) scope.names []).lookup y.1).isSome=true):=fun⟨n,v⟩ hy=>by
  rcases S.par n (Th hy).1 with q|q
  ·exact .inl q
  ·exact .inr ⟨q,Sx _ _ _ (.inl q)⟩
 refine codeAny_call_function hr.depth (KX _ _ lk) rfl S.co S.gen rfl (Vn KX hcd) (BindsTo.of_eq (gQ us HN) _ _ _ _ ?_);refine wpAny_newFunctionEnv_cells S.kind hkind fun env he s1 x=>?_
 subst he;exact⟨lim.keeps x.toInCall.keep,codeAny_func (h s1 (ku (A:=A) (cd:=aU) S hr.hd e0 hl r x) x.toInCall.keep)⟩
theorem Fv {k:Nat} {name:Str} {params:Arguments} {body:List Stmt} {dV kV doc pm aU ct oc:OE} {an od:Option Pf} {kz:Array (Option OE)} {mb:Rz} (lk:K.lookup f=some ⟨oc,od,.func (P5 name qual params body scope dV kV doc pm an aU ct),kz⟩) (hcd:Rm K aU qual=true) (S:eO N ps scope)
  (gQ:∀us:List OE,us.length=ps.length->bindArgs (P5 name qual params body scope dV kV doc pm an aU ct) ⟨us,[]⟩=pure (ps.zip us))
  (d8:∀(A:Pm) (s:OH) (H:Hp),bY k (A.deeper (envOfC qual scope s.heap.objs.size f aU))->Ai (jX P w K mg cls base N qual scope f aU A s H) body mb) :
  yX P w K mg cls base (k+1) f (fun xs L c=>xs.length=ps.length/\mb (xs.map some++Pd (N.length - ps.length) none) L c):=fun {A s g L us xs C l} hr xE nu e0 tB r gR=>by
 refine jH lk hcd S gQ hr e0 r gR.1 fun s1 I kp=>?_
 obtain⟨P',cv,hp⟩:=tB.pins;have I':Inv (jX P w K mg cls base N qual scope f aU A s g.H) P' (xs.map some++Pd (N.length - ps.length) none) g L s1 :=
  { I with pin:=fun p yW=>let ⟨_,h2,h3,h4⟩:=hp p yW;⟨kp _ _ h2,h3,O8 (O4 h2),h4⟩ }
 refine wpAny_mono (d8 A s g.H (hr.deeper _) (g₀:=g) (l:=l) ⟨rfl,rfl,S9 nu,rfl,xE⟩ I' (.refl g) cv gR.2) (fun _ _ z=>z.elim) fun e s' ⟨y,ey,hq⟩=>?_
 subst ey;exact wpAny_mono hq (fun _ tV z=>⟨y,rfl,z⟩) fun _ _ z=>z.elim
end
noncomputable def TE (X:Cx) (l:List Env) (φ:Fr) (L:Live) (g₀:G) (C:Pf) (e:OE) (s':OH):Prop:=∃x P g s,e=.ref x/\Inv X P φ g L s/\jW X.base X.s₀.heap l P/\Le g₀ g/\CB (X.env::l) g s L C x s'
structure Lit (X:Cx) (l:List Env) (φ:Fr) (g:G) (L:Live) (C x:Pf) (B:Heap) (a0:OE) (s:OH):Prop where
 fl:Heap.FlyingW B (X.env::l) x (.ref C) a0 s.heap
 land:∀h',s.heap.UpToSlots h'->B.StaysIn h'->∃P,jW X.base X.s₀.heap l P/\Inv X P φ g L { s with heap:=h' }
 fr:g.H x=none
section
variable {X:Cx} {P:ar} {φ:Fr} {g g' g₀:G} {L:Live} {s s':OH} {l:List Env} {h6 B:Heap} {C x:Pf} {a0:OE} {E:OE->OH->Prop}
theorem Inv.shift {L':Live} (I:Inv X P φ g L s) (hex:X.ex=d6 l) (hf:X.env.frame=some X.env.locals) (cv:jW X.base X.s₀.heap l P) (os:s'.os=s.os) (bare:AllBare s'.gens) (l1:Le g g') (rel:Rel g' L') (hok:HOk g'.H s'.heap)
  (kp:∀b o,s.heap.get? b=some o->g.H b=none->b∉d6 (X.env::l)->s'.heap.get? b=some o/\g'.H b=none) (IU:∀b o,s.heap.get? b=some o->g.H b=none->b∈d6 (X.env::l)->g'.H b=none/\∃sl,s'.heap.get? b=some { o with slots:=sl }) :
  ∃P',jW X.base X.s₀.heap l P'/\Inv X P' φ g' L' s':=by
 have S:=I.tB hf cv;have st:d6 (X.env::l)=X.env.locals::d6 l:=fE _ _ hf
 have MN:∀b o,X.s₀.heap.get? b=some o->b∉X.ex->b∉d6 (X.env::l):=fun b o e h2 hm=>by
  rw [st] at hm;rcases OS.mp hm with z|z
  ·exact O8 (O5 (O4 e) I.ok.above) z
  ·exact h2 (by rw [hex];exact z)
 have slot:∀b o,s.heap.get? b=some o->b∈d6 (X.env::l)->g'.H b=none/\∃sl,s'.heap.get? b=some { o with slots:=sl }:=fun b o e hb=>by
  obtain⟨o',es,ep,e',hd,_,n,_⟩:=S.at_ hb
  exact IU b o e n hb
 have Aj:∀y c,X.env.cells.lookup y=some c->c∉d6 (X.env::l):=fun y c e hm=>by
  obtain⟨v,o,ho,hd⟩:=I.cell y c e;obtain⟨o',es,ep,e',hd',_⟩:=S.at_ hm
  rw [ho] at e';cases e';rw [hd] at hd';cases hd'
 have cellK:∀y c v,X.env.cells.lookup y=some c->s.heap.IsCell c v->s'.heap.IsCell c v:=fun y c v e ⟨o,ho,hd⟩=>⟨o,(kp c o ho (I.jc y c e) (Aj y c e)).1,hd⟩
 have S6:tZ X.base l g' s'.heap:=fun env he=>by
  obtain⟨k,a,o,es,ep,f,b,e,d,q,n⟩:=S env (OG _ he);obtain⟨n',sl,z⟩:=slot a o e (QA.mpr ⟨env,OG _ he,f⟩);exact⟨k,a,_,es,ep,f,b,z,d,q,n'⟩
 obtain⟨P',MO,hp⟩:=S6.pins;have IV:jW X.base X.s₀.heap l P':=fun env he=>by
  obtain⟨k,a,o,es,ep,f,b,m,d,q,_⟩:=MO env he;obtain⟨_,a2,o2,_,_,f2,_,m2,_,_,o0,sl,e0,eo⟩:=cv env he;rw [f] at f2;cases f2;obtain⟨_,sJ,z⟩:=slot a o2 (I.pin _ m2).1 (QA.mpr ⟨env,OG _ he,f⟩);have z2:=(hp _ m).2.1
  rw [z] at z2;refine⟨k,a,o,es,ep,f,b,m,d,q,o0,sJ,e0,?_⟩;have z3:_=o:=Qq z2
  rw [<- z3,eo]
 have kk:∀b o,X.s₀.heap.get? b=some o->X.H₀ b=none->b∉X.ex->s'.heap.get? b=some o/\g'.H b=none:=fun b o e n hx=>kp b o (I.base.keep b o e n hx) (I.base.free b o e n hx) (MN b o e hx)
 obtain⟨m,⟨o,es,ep,ho,hd,r⟩,hl⟩:=I.loc;obtain⟨fr,sl,z⟩:=slot _ o ho (by rw [st];exact OI);refine⟨P',IV,I.ok,os.trans I.os,bare,⟨fun b o e n hx=>(kk b o e n hx).1,fun b o e n hx=>(kk b o e n hx).2,fun b o e=>l1.f b o (I.base.eY b o e)⟩,⟨m,⟨_,es,ep,z,hd,r⟩,fun i y t e1 e2 e3=>?_⟩,fun y c e=>?_,fr,fun y c e=>?_,fun p yW=>?_,hok,I.len,rel,l1.B.trans I.gB,l1.m.trans I.gm,l1.w.trans I.gw⟩
 ·obtain⟨u,ru,lk⟩:=hl i y t e1 e2 e3
  refine⟨u,ru.le l1,?_⟩;rcases lk with lk|⟨k,c,e,z⟩
  ·exact .inl lk
  ·exact .inr ⟨k,c,e,cellK y c _ e z⟩
 ·obtain⟨v,z⟩:=I.cell y c e
  exact⟨v,cellK y c v e z⟩
 ·obtain⟨v,o,ho,_⟩:=I.cell y c e
  exact(kp c o ho (I.jc y c e) (Aj y c e)).2
 ·obtain⟨h1,h2,h3,h4⟩:=hp p yW
  exact⟨h2,h3,(I.ok.Kf _ (by rw [hex];exact h1)).1,h4⟩
theorem Inv.land (I:Inv X P φ g L s) (hex:X.ex=d6 l) (hf:X.env.frame=some X.env.locals) (cv:jW X.base X.s₀.heap l P) (F:CB (X.env::l) g s L C x s') (hok:HOk g'.H B) (l1:Le g g') (rel:Rel g' L)
  (kp:∀b o,s.heap.get? b=some o->g.H b=none->b∉d6 (X.env::l)->B.get? b=some o) (fr:∀b o,s.heap.get? b=some o->g.H b=none->g'.H b=none) (sm:s'.heap.UpToSlots h6) (hB:B.StaysIn h6) :
  ∃P',jW X.base X.s₀.heap l P'/\Inv X P' φ g' L { s' with heap:=h6 }:=by
 refine I.shift (s':={ s' with heap:=h6 }) hex hf cv F.os F.bare l1 rel (fun a b o q=>hB _ _ (hok a b o q)) (fun b o e n hb=>⟨hB _ _ (kp b o e n hb),fr b o e n⟩) fun b o e n hb=>⟨fr b o e n,?_⟩
 obtain⟨sl,q⟩:=F.slot b o e n hb;obtain⟨o',es,ep,e',hd,_⟩:=(I.tB hf cv).at_ hb
 rw [e] at e';cases e';obtain⟨sJ,q2⟩:=sm b _ q fun vs z=>by have z:o.data=.fields vs:=z;rw [hd] at z;cases z
 exact⟨sJ,q2⟩
theorem Fw {body:List Stmt} {h₀:ExceptHandler} {hs:List ExceptHandler} {pos:Pos} {Q:Flow->OH->Prop} (hex:X.ex=d6 l) (hA:X.A.frames=some (X.env::l)) (hf:X.env.frame=some X.env.locals)
  (hb:O3 (model X.prog X.w) X.A (execs body X.env) N0 (TE X l φ L g₀ C) s)
  (hh:∀x g' B a0 s2,Le g₀ g'->Lit X l φ g' L C x B a0 s2->O3 (model X.prog X.w) X.A (handleBy (.ref x) X.env (h₀::hs)) Q E s2) :
  O3 (model X.prog X.w) X.A (exec (.Try body (h₀::hs) [] [] pos) X.env) Q E s:=by
 refine wpAny_Try_except (wpAny_mono hb (fun fw s1 q=>q.elim) fun e s1 q=>?_);obtain⟨x,P,g,s0,rfl,I,cv,l0,F⟩:=q;obtain⟨B,a0,g',fl,hok,l1,rel,kp,fr⟩:=F.ex;refine wpAny_looks_onW (base:=B) (outer:=l) (L:=X.env.locals) (cls:=.ref C) (a0:=a0) hA hf fl fun h1 held BP=>?_
 refine wpAny_landsW held fun h2 IS MP=>?_
 have hfr':g'.H x=none:=by
  cases e:g'.H x with
  | none=>rfl
  | some o =>
   have hu:=hok x o.1 o.2 e;rw [fl.2.1] at hu;cases hu
 refine hh x g' B a0 _ (l0.trans l1) ⟨IS,fun h3 MQ xy=>?_,hfr'⟩;have J:=I.land (s':=s1) (h6:=h3) hex hf cv F hok l1 rel kp fr ((BP.trans MP).trans MQ) xy
 exact J
theorem CH {f:Pf} {k:Nat} {nm:Str} {e:Expr} {es:List Expr} {p pos:Pos} {ms:List SE} {mr:List T->Live->Pf->Prop} (hF:yX X.prog X.w X.K X.mg X.cls X.base k f mr) (hr:bY k X.A) (hg:Gl X nm) (hm:X.mg nm=some (.ref f)) (hk:PW X.K (.ref f)=true) (ha:PA X (e::es) (d5 ms)) (hs:(e::es).all aC=true) (pz:(nm == ("__debug__":Str))=false)
  (xE:X.A.guards=some []) (hA:X.A.frames=some (X.env::l)) (hf:X.env.frame=some X.env.locals) (I:Inv X P φ g L s) (cv:jW X.base X.s₀.heap l P) (q:Fu mr ms φ L C):O3 (model X.prog X.w) X.A (eval (.Call (.Name nm p) (e::es) [] pos) X.env) N0 (TE X l φ L g C) s:=by
 obtain⟨ts,e1,q⟩:=q;rw [PK,ON] at hs;refine wpAny_Call_Name_kw (a7 (eK I hg hm (Sb (h₀:=X.base) I.ok.mod.zP hk (a7 (ha pos I e1) fun us s1 ⟨g1,l1,I1,r1⟩=>⟨I1.DD,?_⟩) (ah hs.1) (aP hs.2)) pz) fun _ _ z=>z);refine wpAny_call (codeAny_mono (hF hr xE hA I1.xY (I1.tB hf cv) r1 q) fun r s' hq=>?_);cases r with
 | ok fl=>cases fl <;> exact SF hq
 | error e =>
  obtain⟨x,rfl,F⟩:=hq;exact⟨x,P,g1,s1,rfl,I1,cv,l1,F⟩
theorem vS {A:Pm} {nm:Str} {u:OE} {pos:Pos} {Q:OE->OH->Prop} (I:Inv X P φ g L s) (hg:Gl X nm) (hm:X.mg nm=some u) (h:Q u s) (hd:(nm == ("__debug__":Str))=false):O3 (model X.prog X.w) A (eval (.Name nm pos) X.env) Q E s :=
 RW I.ok.kind hg (Uj (by rw [I.ok.glob];exact I.mod.glob.keeps I.bk) hm h) hd
theorem Fx {Cv:OE} {nm:Str} {np pos:Pos} {b₀:Stmt} {body:List Stmt} {rest:List ExceptHandler} {Q:Flow->OH->Prop} (T:Lit X l φ g L C x B a0 s) (hg:Gl X nm) (hm:X.mg nm=some Cv) (eb:Ve X.K (.ref C) Cv=some true) (pz:(nm == ("__debug__":Str))=false)
  (h:∀h' P',jW X.base X.s₀.heap l P'->Inv X P' φ g L { s with heap:=h' }->O3 (model X.prog X.w) (X.A.mark (some (.ref x))) (execs (b₀::body) X.env) Q F0 { s with heap:=h' }):O3 (model X.prog X.w) X.A (handleBy (.ref x) X.env (.ExceptHandler (some (.Name nm np)) none (b₀::body) pos::rest)) Q E s:=by
 obtain⟨P,cv,I⟩:=T.land s.heap (Heap.UpToSlots.of_keeps fun _ _ q=>q) T.fl.1;obtain⟨oe,he,hc⟩:=T.fl.there;have lt:PySem.W.Looks (model X.prog X.w) s.heap (typeOf (.ref x)) (.ref C):=by
  rw [<- hc];exact(PySem.W.Looks.ld he).andThen .now
 refine wpAny_handleBy_cons (codeAny_handlers_test (vS I hg hm ((PySem.W.exm_one I.DD lt eb).here ?_) pz)) (by intro q;cases q);refine codeAny_handlers_suite (lands_againW T.fl fun h' MR sm=>?_);obtain⟨P',IV,I'⟩:=T.land h' sm MR.1;exact a7 (h h' P' IV I') fun _ _ z=>z
end
section
variable {X:Cx} {P:ar} {φ:Fr} {g g' g₀:G} {L:Live} {s s':OH} {l:List Env} {h6 B:Heap} {C x:Pf} {a0:OE} {E:OE->OH->Prop} {i:Nat} {n:Str} {A:Pm} {Md:Model}
theorem Inv.frame (I:Inv X P φ g L s):(X.env.scope.kind == .class || (X.env.scope.kind == .module && X.env.locals != X.env.globals))=false:=by rw [I.ok.kind];rfl
end
noncomputable def MS (l:List Env) (g:G) (s:OH) (t:T) (L':Live) (u:OE) (s':OH):Prop:=∃g',s'.os=s.os/\AllBare s'.gens/\Un (d6 l) g.H g'.H s.heap s'.heap/\(∀b o,s.heap.get? b=some o->g.H b=none->b∈d6 l->g'.H b=none/\∃sl,s'.heap.get? b=some { o with slots:=sl })/\HOk g'.H s'.heap/\Le g g'/\Rel g' L'/\RT g' none t u
noncomputable def MT (l:List Env) (g:G) (s:OH) (t:T) (L':Live) (r:Result) (s':OH):Prop:=match r with
 | .ok (.ret u)=>MS l g s t L' u s'
 | _=>False
noncomputable def Fy (P:Pp) (w:Qn) (K:O7) (mg:Str->Option OE) (cls:Str->Option Pf) (base:Heap) (k:Nat) (f:Pf) (m:List T->Live->T->Prop):Prop :=
 ∀{A:Pm} {s:OH} {g:G} {L:Live} {us:List OE} {xs:List T} {t:T} {l:List Env},bY k A->A.guards=some []->A.frames=some l->Env0 P w K mg cls base s g L->tZ base l g s.heap->bz g xs us->m xs L t->codeAny (model P w) A (.call (.ref f) ⟨us,[]⟩) (MT l g s t L) s
section
variable {X:Cx} {P:ar} {φ:Fr} {g g' g₀:G} {L L':Live} {s s':OH} {l:List Env} {t:T} {u:OE}
end
section
variable {P:Pp} {w:Qn} {K:O7} {mg:Str->Option OE} {cls:Str->Option Pf} {base:Heap} {N ps:List Str} {qual:Str} {scope:Scope} {f:Pf} {cd:OE} {A:Pm} {s s1:OH} {g:G} {L:Live} {l:List Env}
abbrev lh (P:Pp) (w:Qn) (K:O7) (mg:Str->Option OE) (cls:Str->Option Pf) (base:Heap) (N:List Str) (qual:Str) (scope:Scope) (f:Pf) (cd:OE) (A:Pm) (s:OH) (H:Hp) (l:List Env):Cx:={ jX P w K mg cls base N qual scope f cd A s H with ex:=d6 l }
theorem FA {k:Nat} {name:Str} {params:Arguments} {body:List Stmt} {dV kV doc pm aU ct oc:OE} {an od:Option Pf} {kz:Array (Option OE)} {m:List T->Live->T->Prop} (lk:K.lookup f=some ⟨oc,od,.func (P5 name qual params body scope dV kV doc pm an aU ct),kz⟩) (hcd:Rm K aU qual=true) (S:eO N ps scope)
  (gQ:∀us:List OE,us.length=ps.length->bindArgs (P5 name qual params body scope dV kV doc pm an aU ct) ⟨us,[]⟩=pure (ps.zip us)) (hlen:∀xs L t,m xs L t->xs.length=ps.length)
  (d8:∀{A:Pm} {s s1:OH} {g:G} {L:Live} {l:List Env} {P':ar} {xs:List T} {t:T},bY k (A.deeper (envOfC qual scope s.heap.objs.size f aU))->A.guards=some []->A.frames=some l->m xs L t->jW base s.heap l P' ->
   Inv (lh P w K mg cls base N qual scope f aU A s g.H l) P' (xs.map some++Pd (N.length - ps.length) none) g L s1 ->
   O3 (model P w) (A.deeper (envOfC qual scope s.heap.objs.size f aU)) (execs body (envOfC qual scope s.heap.objs.size f aU)) (fun fl s'=>∃u,fl=.ret u/\∃P2 φ2 g2,jW base s.heap l P2/\Le g g2/\Inv (lh P w K mg cls base N qual scope f aU A s g.H l) P2 φ2 g2 L s'/\RT g2 none t u) F0 s1) :
  Fy P w K mg cls base (k+1) f m:=fun {A s g L us xs t l} hr xE nu e0 tB r gR=>by
 refine jH lk hcd S gQ hr e0 r (hlen _ _ _ gR) fun s1 I kp=>?_
 obtain⟨P',cv,hp⟩:=tB.pins;have old:∀b∈d6 l,b<s.heap.objs.size:=fun b hb=>let ⟨_,_,_,e,_⟩:=tB.at_ hb;O4 e
 have ok:Cx.Ok (lh P w K mg cls base N qual scope f aU A s g.H l):={ I.ok with
  Kf:=fun b hb=>⟨O8 (old b hb),fun y c e=>QX (O5 (old b hb) (I.ok.Ke y c rfl e))⟩
  xJ:=fun b o e hb=>by
   obtain⟨_,_,_,_,_,_,_,z⟩:=tB.at_ hb
   have e:base.get? b=some o:=e;rw [e] at z;cases z }
 have I':Inv (lh P w K mg cls base N qual scope f aU A s g.H l) P' (xs.map some++Pd (N.length - ps.length) none) g L s1 :=
  { I with ok:=ok,base:=⟨fun b o e n _=>I.base.keep b o e n (by intro z;cases z),fun b o e n _=>I.base.free b o e n (by intro z;cases z),I.base.eY⟩,pin:=fun p yW=>let ⟨_,h2,h3,h4⟩:=hp p yW;⟨kp _ _ h2,h3,O8 (O4 h2),h4⟩ }
 refine wpAny_mono (d8 (hr.deeper _) xE nu gR cv I') (fun fl s' ⟨u,e,P2,φ2,g2,IW,l2,J,rt⟩=>?_) fun _ _ z=>z.elim
 subst e;refine⟨g2,J.os,J.bare,J.base,fun b o e n hb=>?_,J.hok,l2,J.rel,rt⟩;obtain⟨env,he,hf⟩:=QA.mp hb;obtain⟨_,a,o2,_,_,f2,_,m2,_,_,o0,sl,e0',eo⟩:=IW env he;rw [hf] at f2;cases f2;rw [e] at e0';cases e0';obtain⟨p1,p2,_⟩:=J.pin _ m2;exact⟨p2,sl,by rw [<- eo];exact p1⟩
end
noncomputable def toP:Nat->T->Option PyData
 | _+1,.int i=>some (.int i)
 | _+1,.str s=>some (.str ⟨s.toArray⟩)
 | n+1,.tup xs=>(xs.mapM (toP n)).map .tuple
 | _,_=>none
section
variable {X:Cx} {P:ar} {φ:Fr} {g:G} {L:Live} {s:OH} {e:Expr} {m:SE} {p1 p2 p3:Pos} {j:Nat} {pre:Str}
theorem lj {n:Nat} (ih:∀{t:T} {u:OE} {p:PyData},RT g none t u->toP n t=some p->∃as,Reads s.heap u p as):∀{xs:List T} {us:List OE} {ps:List PyData},bz g xs us->xs.mapM (toP n)=some ps->∃as,ReadsAll s.heap us ps as
 | [],[],ps,_,h=>by cases h;exact⟨_,.nil⟩
 | x::xs,u::us,ps,r,h=>by
  rw [R2] at h;cases e1:toP n x with
  | none=>rw [e1] at h;cases h
  | some p =>
   cases e2:xs.mapM (toP n) with
   | none=>rw [e1,e2] at h;cases h
   | some qs =>
    rw [e1,e2] at h;cases h;cases r with
    | cons r1 r2 =>
     obtain⟨as,z⟩:=ih r1 e1;obtain⟨bs,z2⟩:=lj ih r2 e2;exact⟨_,.cons z z2⟩
theorem oh (I:Inv X P φ g L s):∀(n:Nat) {t:T} {u:OE} {p:PyData},RT g none t u->toP n t=some p->∃as,Reads s.heap u p as
 | 0,t,u,p,_,h=>by cases h
 | n+1,.int i,u,p,r,h=>by
  cases h;obtain⟨t,rfl⟩:=r.iI;exact⟨_,.int i t⟩
 | n+1,.str z,u,p,r,h=>by
  cases h;cases r with
  | str _ t _=>exact⟨_,.str _ t⟩
 | n+1,.tup xs,u,p,r,h=>by
  have h:(xs.mapM (toP n)).map PyData.tuple=some p:=h;cases e:xs.mapM (toP n) with
  | none=>rw [e] at h;cases h
  | some ps =>
   rw [e] at h;cases h;obtain⟨a,its,rfl,⟨o,ho,hc,k,hd⟩,rs,_⟩:=I.tup r;obtain⟨as,z⟩:=lj (oh I n) rs e;exact⟨as,.tuple ho hc hd z⟩
 | n+1,.bK,u,p,_,h=>by cases h
 | n+1,.bl _,u,p,_,h=>by cases h
 | n+1,.lst _,u,p,_,h=>by cases h
 | n+1,.aO _,u,p,_,h=>by cases h
 | n+1,.obj _ _,u,p,_,h=>by cases h
 | n+1,.ref _,u,p,_,h=>by cases h
 | n+1,.cl _,u,p,_,h=>by cases h
def y6 (pre:Str) (t:T) (L:Live):R T:=match t with
 | .tup xs=>match toP 8 (.tup xs) with
  | some p=>bD (p.showable=true/\p.hasDict=false/\p.depth<=18/\(QO++pre++p.shown).length<=1000000) (.ok (.str (QO++pre++p.shown).cps.toList) L)
  | none=>.bad
 | .str z=>bD ((reprText ⟨z.toArray⟩).length<=1000/\(QO++pre++reprText ⟨z.toArray⟩).length<=1000000) (.ok (.str (QO++pre++reprText ⟨z.toArray⟩).cps.toList) L)
 | _=>.bad
theorem y7 (hg:X.A.guards=some []) (hu:X.A.units+64<cLine) (he:PE X e m):PE X (.JoinedStr [.Constant (.str pre) j p1,.FormattedValue e 114 none p2] p3) (b1 m (y6 pre)):=fun {P φ g L s w L'} I h=>by
 obtain⟨t,L1,e1,h⟩:=R.of h;cases t with
 | tup xs =>
  have h:(match toP 8 (.tup xs) with
   | some p=>bD (p.showable=true/\p.hasDict=false/\p.depth<=18/\(QO++pre++p.shown).length<=1000000) (R.ok (T.str (QO++pre++p.shown).cps.toList) L1)
   | none=>.bad)=.ok w L':=h
  cases ep:toP 8 (.tup xs) with
  | none=>rw [ep] at h;cases h
  | some p =>
   rw [ep] at h;obtain⟨⟨k1,k2,k3,k4⟩,h⟩:=ao h;cases h;have hl:(QO++pre).length<=O6/\(QO++pre++p.shown).length<=O6/\p.shown.length<=O6:=by
    rw [strLen_append] at k4;refine⟨?_,?_,?_⟩
    ·rw [P9];omega
    ·rw [strLen_append,P9];omega
    ·rw [P9];omega
   refine wpAny_JoinedStr ?_;refine TL ⟨pre,_,rfl,hl.1,?_⟩;refine wpAny_FormattedValue_repr (a7 (he (I.tok _) e1) fun u s1 ⟨g1,l1,I1,r1⟩=>?_);obtain⟨as,rd⟩:=oh I1 8 r1 ep;obtain⟨a,its,rfl,_⟩:=I1.tup r1;refine pyReprObj_of_reads rd k1 (fun z=>by rw [k2] at z;cases z) hg (by omega) (fun _ _ z=>z) (fun h' tk t' kp=>?_) hl.2.2;have fin:∀tk t2,EP X P φ g (.str (QO++pre++p.shown).cps.toList) L' (.str (QO++pre++p.shown) tk) { s1 with heap:=h',toks:=t2 }:=fun tk t2=>⟨g1,l1,I1.kept kp,.str _ _ hl.2.1⟩
   exact wpAny_formatField_str ⟨_,_,rfl,hl.2.1,hl.2.1,fin _ _⟩ ⟨_,_,rfl,hl.2.1,hl.2.1,fin _ _⟩ hl.2.2
 | str z =>
  obtain⟨⟨k3,k4⟩,h⟩:=ao h;cases h;have hl:(QO++pre).length<=O6/\(QO++pre++reprText ⟨z.toArray⟩).length<=O6/\(reprText ⟨z.toArray⟩).length<=O6:=by
   rw [strLen_append] at k4;refine⟨?_,?_,?_⟩
   ·rw [P9];omega
   ·rw [strLen_append,P9];omega
   ·rw [P9];omega
  refine wpAny_JoinedStr ?_;refine TL ⟨pre,_,rfl,hl.1,?_⟩;refine wpAny_FormattedValue_repr (a7 (he (I.tok _) e1) fun u s1 ⟨g1,l1,I1,r1⟩=>?_);obtain⟨t,rfl,_⟩:=r1.gD;refine wpAny_pyReprObj_str ?_ hl.2.2;have fin:∀tk t2,EP X P φ g (.str (QO++pre++reprText ⟨z.toArray⟩).cps.toList) L' (.str (QO++pre++reprText ⟨z.toArray⟩) tk) { s1 with toks:=t2 }:=fun tk t2=>⟨g1,l1,I1.tok _,.str _ _ hl.2.1⟩
  exact wpAny_formatField_str ⟨_,_,rfl,hl.2.1,hl.2.1,fin _ _⟩ ⟨_,_,rfl,hl.2.1,hl.2.1,fin _ _⟩ hl.2.2
 | _=>cases h
end
abbrev ng:=Fr->Live->Str->Prop
abbrev y8:=List T->Live->Str->Prop
structure Rt where
 rs:List (Str × y8)
 xs:List Str
noncomputable def iH:ng:=fun _ _ _=>False
noncomputable def y9 (a b:ng):ng:=fun φ L c=>a φ L c\/b φ L c
noncomputable def FD (mr:y8) (ms:List SE):ng:=fun φ L c=>∃ts,d5 ms φ L=.ok ts L/\mr ts L c
noncomputable def rZ (x:Str) (ms:List SE):ng:=fun φ L c=>c=x/\∃ts,d5 ms φ L=.ok ts L/\ts.length<=O6
noncomputable def jI (m:SS) (mr:ng):ng:=fun φ L c=>∃φ',m φ L=.nx φ' L/\mr φ' L c
noncomputable def za (k:ST) (b:Bool) (mr:ng):ng:=fun φ L c=>k φ L=.ok b L/\mr φ L c
noncomputable def rE (R:Rt) (B:Bd) (S:Sg) (e:Expr):ng:=match e with
 | .Call f es ks _=>match f with
  | .Name x _=>match ks with
   | []=>match es with
    | []=>iH
    | e::es=>match S.gl x && (e::es).all aC,R.rs.lookup x with
     | true,some mr=>FD mr ((e::es).map B.E)
     | _,_=>iH
   | _::_=>iH
  | _=>iH
 | _=>iH
noncomputable def rT (R:Rt) (B:Bd) (S:Sg) (e:Expr):ng:=match e with
 | .UnaryOp op a _=>match op with
  | .Not=>rE R B S a
  | _=>iH
 | _=>rE R B S e
def zb (B:Bd) (e:Expr):SE:=match e with
 | .JoinedStr vs _=>match vs with
  | [a,b]=>match a with
   | .Constant k _ _=>match k with
    | .str pre=>match b with
     | .FormattedValue e' 114 none _=>b1 (B.E e') (y6 pre)
     | _=>B.E e
    | _=>B.E e
   | _=>B.E e
  | _=>B.E e
 | _=>B.E e
def IX (R:Rt) (B:Bd) (S:Sg) (e:Expr):ng:=match e with
 | .Call f es ks _=>match f with
  | .Name x _=>match ks with
   | []=>match es with
    | []=>iH
    | e::es=>match S.gl x && (e::es).all aC && R.xs.contains x with
     | true=>rZ x ((e::es).map (zb B))
     | false=>iH
   | _::_=>iH
  | _=>iH
 | _=>iH
def rB (B:Bd) (rS:Stmt->ng):List Stmt->ng
 | []=>iH
 | st::rest=>y9 (rS st) (jI (B.S st) (rB B rS rest))
def rS (R:Rt) (B:Bd) (S:Sg):Nat->Stmt->ng
 | 0,_=>iH
 | n+1,st=>match st with
  | .Raise v w _=>match v with
   | some e=>match w with
    | none=>IX R B S e
    | some _=>iH
   | none=>iH
  | .Expr e _=>match fP e with
   | true=>rE R B S e
   | false=>iH
  | .Return v _=>match v with
   | some e=>rE R B S e
   | none=>iH
  | .If k a b _=>y9 (rT R B S k) (y9 (za (B.T k) true (rB B (rS R B S n) a)) (za (B.T k) false (rB B (rS R B S n) b)))
  | _=>iH
def r6 (R:Rt) (Γ:Ct) (S:Sg) (b:List Stmt):ng:=rB (cX Γ 40 S) (rS R (cX Γ 40 S) S 40) b
noncomputable def up (X:Cx) (mr:ng):Rz:=fun φ L C=>∃c,mr φ L c/\X.mg c=some (.ref C)
noncomputable def KV (mg:Str->Option OE) (mr:y8):List T->Live->Pf->Prop:=fun ts L C=>∃c,mr ts L c/\mg c=some (.ref C)
structure mJ (X:Cx) (R:Rt):Prop where
 gd:X.A.guards=some []
 un:X.A.units+64<cLine
 rs:∀x mr,R.rs.lookup x=some mr->(x == ("__debug__":Str))=false/\∃k fa,yX X.prog X.w X.K X.mg X.cls X.base k fa (KV X.mg mr)/\bY k X.A/\X.mg x=some (.ref fa)/\PW X.K (.ref fa)=true
 xs:∀x∈R.xs,(x == ("__debug__":Str))=false/\∃C,X.mg x=some (.ref C)/\RU X.K C Fo vO=true
section
variable {X:Cx} {Γ:Ct} {S:Sg} {B:Bd} {R:Rt}
theorem vT {e:Expr}:DW X e (up X iH):=fun {_ _ _ _ _ _ _ _} _ _ _ _ h=>h.elim fun _ z=>z.1.elim
theorem jJ {st:Stmt}:PX X st (up X iH):=fun {_ _ _ _ _ _ _ _} _ _ _ _ h=>h.elim fun _ z=>z.1.elim
theorem vU (o:mJ X R) (c:bZ X S) (hB:cy X B) (e:Expr):DW X e (up X (rE R B S e)):=by
 cases e with
 | Call f es ks pos =>
  cases f with
  | Name x p =>
   cases ks with
   | nil =>
    cases es with
    | nil=>exact @vT X _
    | cons e es =>
     delta rE;dsimp only;split
     ·rename_i mr h1 h2
      simp only [ON] at h1;obtain⟨d,k,fa,F,r,m,kp⟩:=o.rs _ _ h2;intro P φ g g₀ L s C l b I l0 cv q;obtain⟨cn,⟨ts,e1,q⟩,hc⟩:=q;exact y5 F r (fg c h1.1) m kp (bO hB h1.2) h1.2 d b I l0 cv ⟨ts,e1,cn,q,hc⟩
     ·exact @vT X _
   | cons=>exact @vT X _
  | _=>exact @vT X _
 | _=>exact @vT X _
theorem zc {e:Expr} (h:∃f es ks p,e=.Call f es ks p):isTrue e X.env (eval e X.env)=(do let v <- eval e X.env;standAt e.pos;holding [v] (truthy v)):=by
 obtain⟨f,es,ks,p,rfl⟩:=h;rfl
theorem FE (o:mJ X R) (c:bZ X S) (hB:cy X B) (e:Expr):DX X e (up X (rE R B S e)):=by
 cases e with
 | Call f es ks pos=>exact fun {_ _ _ _ _ _ _ _} b I l0 cv q=>y4 (vU o c hB _) (zc ⟨_,_,_,_,rfl⟩) b I l0 cv q
 | _=>exact fun {_ _ _ _ _ _ _ _} _ _ _ _ h=>h.elim fun _ z=>z.1.elim
theorem FG (o:mJ X R) (c:bZ X S) (hB:cy X B) (e:Expr):DX X e (up X (rT R B S e)):=by
 cases e with
 | UnaryOp op a p=>cases op with
  | Not=>exact fun {_ _ _ _ _ _ _ _} b I l0 cv q=>y0 (FE o c hB a) b I l0 cv q
  | _=>exact fun {_ _ _ _ _ _ _ _} _ _ _ _ h=>h.elim fun _ z=>z.1.elim
 | _=>exact fun {_ _ _ _ _ _ _ _} b I l0 cv q=>FE o c hB _ b I l0 cv q
theorem zd (o:mJ X R) (hB:cy X B) (e:Expr):PE X e (zb B e):=by
 have d:PE X e (B.E e):=fun {_ _ _ _ _ _ _} I q=>hB.E e I q
 unfold zb;split
 ·split
  ·split
   ·split
    ·split
     ·exact fun {_ _ _ _ _ _ _} I q=>y7 o.gd o.un (hB.E _) I q
     ·exact @d
    ·exact @d
   ·exact @d
  ·exact @d
 ·exact @d
theorem om (o:mJ X R) (hB:cy X B):∀{es:List Expr},es.all aC=true->PA X es (d5 (es.map (zb B)))
 | [],_=>lJ
 | e::es,h=>by
  rw [PK,ON] at h;exact gE (zd o hB e) (om o hB h.2) h.1
theorem CI (o:mJ X R) (c:bZ X S) (hB:cy X B) {pos:Pos} (e:Expr):PX X (.Raise (some e) none pos) (up X (IX R B S e)):=by
 cases e with
 | Call f es ks p2 =>
  cases f with
  | Name x p =>
   cases ks with
   | nil =>
    cases es with
    | nil=>exact @jJ X _
    | cons e es =>
     delta IX;dsimp only;split
     ·rename_i h1
      simp only [ON] at h1;obtain⟨d,C,m,ex⟩:=o.xs x (by simpa using h1.2);intro P φ g g₀ L s C' l b I l0 cv q;obtain⟨cn,⟨rfl,ts,e1,q⟩,hc⟩:=q;rw [m] at hc;cases hc;exact vP ex (fg c h1.1.1) m (om o hB h1.1.2) h1.1.2 d b I l0 cv ⟨rfl,ts,e1,q⟩
     ·exact @jJ X _
   | cons=>exact @jJ X _
  | _=>exact @jJ X _
 | _=>exact @jJ X _
theorem vV (hB:cy X B) {r:Stmt->ng} (h:∀st,PX X st (up X (r st))) (l:List Stmt):Ai X l (up X (rB B r l)):=by
 induction l with
 | nil=>exact fun {_ _ _ _ _ _ _ _} _ _ _ _ q=>q.elim fun _ z=>z.1.elim
 | cons st rest ih =>
  intro P φ g g₀ L s C l b I l0 cv q;obtain⟨cn,q,hc⟩:=q;rcases q with q|⟨φ',e,q⟩
  ·exact vQ (h st) b I l0 cv ⟨cn,q,hc⟩
  ·exact vR (hB.S st) ih b I l0 cv ⟨φ',e,cn,q,hc⟩
theorem FH (o:mJ X R) (c:bZ X S) (hB:cy X B) (n:Nat) (st:Stmt):PX X st (up X (rS R B S n st)):=by
 induction n generalizing st with
 | zero=>exact @jJ X st
 | succ n ih =>
  cases st with
  | Raise v w=>cases v with
   | none=>exact @jJ X _
   | some e=>cases w with
    | none=>exact fun {_ _ _ _ _ _ _ _} b I l0 cv q=>CI o c hB e b I l0 cv q
    | some=>exact @jJ X _
  | Expr e pos =>
   unfold rS;dsimp only;split
   ·rename_i h;exact fun {_ _ _ _ _ _ _ _} b I l0 cv q=>CF (vU o c hB e) h b I l0 cv q
   ·exact @jJ X _
  | Return v=>cases v with
   | none=>exact @jJ X _
   | some e=>exact fun {_ _ _ _ _ _ _ _} b I l0 cv q=>CG (vU o c hB e) b I l0 cv q
  | If k a b' pos =>
   intro P φ g g₀ L s C l b I l0 cv q;obtain⟨cn,q,hc⟩:=q;rcases q with q|⟨e,q⟩|⟨e,q⟩
   ·exact yZ (FG o c hB k) b I l0 cv ⟨cn,q,hc⟩
   ·exact Fq (hB.T k) (vV hB ih a) b I l0 cv ⟨e,cn,q,hc⟩
   ·exact yY (hB.T k) (vV hB ih b') b I l0 cv ⟨e,cn,q,hc⟩
  | _=>exact @jJ X _
theorem vW (o:cR X Γ) (r:mJ X R) (c:bZ X S) (b:List Stmt):Ai X b (up X (r6 R Γ S b)):=vV (iG 40 X S o c) (FH r c (iG 40 X S o c) 40) b
end
end M
namespace PySem.W
open PySem PySem.Spec PySem.Calls PyProof.Rows Builtin Builtin.ObjectAttr Builtin.Getset_descriptor
section
variable {prog:Pp} {w:Qn} {A:Pm} {E:OE->OH->Prop} {K:Frag} {x D:Pf} {ox:Obj}
end
end PySem.W
namespace M
open PySem PySem.Spec PyProof.Rows
section
variable {X:Cx} {P:ar} {φ:Fr} {g:G} {L:Live} {s:OH} {A:Pm} {E:OE->OH->Prop} {x D:Pf} {oe:Obj} {m:Str->Option OE} {nm v:Str} {u Cv:OE} {b:Bool} {p pos p1:Pos}
end
structure CX (X:Cx) (l:List Env):Prop where
 ex:X.ex=d6 l
 fr:X.A.frames=some (X.env::l)
 lf:X.env.frame=some X.env.locals
 gd:X.A.guards=some []
section
variable {X:Cx} {P:ar} {φ:Fr} {g:G} {L:Live} {s:OH} {A:Pm} {E:OE->OH->Prop} {l:List Env} {C f:Pf} {k:Nat} {nm cn v n y:Str} {Cv u:OE} {e:Expr} {es:List Expr} {ms:List SE} {mr:List T->Live->Pf->Prop} {p pos p1 p2 p3 p4 p5 p6 p7 np:Pos} {i j:Nat} {t:T}
theorem hV {Q:Flow->OH->Prop} (hs:fP e=true) (h:O3 (model X.prog X.w) A (eval e X.env) (fun u s1=>O3 (model X.prog X.w) A (storeName X.env y u) (fun _ s2=>Q .next s2) E s1) E s):O3 (model X.prog X.w) A (exec (.Assign [.Name y p1] e pos) X.env) Q E s :=
 wpAny_Assign_Name h (fq hs)
end
section
variable {P:Pp} {w:Qn} {K:O7} {mg:Str->Option OE} {cls:Str->Option Pf} {base h:Heap} {N ps:List Str} {qual x:Str} {scope:Scope} {f:Pf} {n:Nat} {Γ:Ct} {st:Stmt} {m:Fn} {R:Rt}
theorem yX.mono {j k:Nat} {mr:List T->Live->Pf->Prop} (h:yX P w K mg cls base j f mr) (l:j<=k):yX P w K mg cls base k f mr:=fun {_ _ _ _ _ _ _ _} hr=>h (hr.mono l)
structure iW (P:Pp) (w:Qn) (K:O7) (mg:Str->Option OE) (cls:Str->Option Pf) (base:Heap) (n:Nat) (R:Rt):Prop where
 rs:∀x mr,R.rs.lookup x=some mr->(x == ("__debug__":Str))=false/\∃fa,yX P w K mg cls base n fa (KV mg mr)/\mg x=some (.ref fa)/\PW K (.ref fa)=true
 xs:∀x∈R.xs,(x == ("__debug__":Str))=false/\∃C,mg x=some (.ref C)/\RU K C Fo vO=true
theorem iW.mono {k:Nat} (T:iW P w K mg cls base n R) (l:n<=k):iW P w K mg cls base k R:=⟨fun x mr q=>let ⟨h1,fa,h2,h3⟩:=T.rs x mr q;⟨h1,fa,h2.mono l,h3⟩,T.xs⟩
theorem iW.ok {X:Cx} (T:iW P w K mg cls base n R) (h:X.prog=P/\X.w=w/\X.K=K/\X.mg=mg/\X.cls=cls/\X.base=base) (hr:bY n X.A) (gd:X.A.guards=some []):mJ X R:=by
 obtain⟨rfl,rfl,rfl,rfl,rfl,rfl⟩:=h;refine⟨gd,by have:=hr.un;omega,fun x mr q=>?_,T.xs⟩;obtain⟨h1,fa,h2,h3,h4⟩:=T.rs x mr q;exact⟨h1,n,fa,h2,hr,h3,h4⟩
noncomputable def KW (R:Rt) (Γ:Ct) (ps:List Str) (st:Stmt) (mr:y8):Prop:=n6 ps (ae st)=true/\(fun xs L c=>xs.length=ps.length/\r6 R Γ ⟨dK ps (ae st),ae st,[]⟩ (bodyOf st) (xs.map some++Pd ((dK ps (ae st)).length - ps.length) none) L c)=mr
theorem iW.def {mr:y8} (T:Tab P w K mg cls base n Γ) (Q:iW P w K mg cls base n R) (F:qf K x qual st f) (e:KW R Γ ps st mr)
  (hb:∀(kV doc pm:OE) (an:Option Pf) (aU ct:OE) (us:List OE),us.length=ps.length->bindArgs (P5 x qual (eW st) (bodyOf st) (ae st) .none kV doc pm an aU ct) ⟨us,[]⟩=pure (ps.zip us))
  (hm:mg x=some (.ref f)) (hd:(x == ("__debug__":Str))=false):iW P w K mg cls base (n+1) ⟨(x,mr)::R.rs,R.xs⟩:=by
 obtain⟨ok,e⟩:=e;subst e;obtain⟨oc,od,kV,doc,pm,an,aU,ct,kz,l,c⟩:=F.ex;obtain⟨S,nm⟩:=i4 ok;have FR:yX P w K mg cls base (n+1) f (fun xs L C=>xs.length=ps.length/\∃c,r6 R Γ ⟨dK ps (ae st),ae st,[]⟩ (bodyOf st) (xs.map some++Pd ((dK ps (ae st)).length - ps.length) none) L c/\mg c=some (.ref C)):=Fv (P:=P) (w:=w) (mg:=mg) (cls:=cls) (base:=base) (k:=n) (mb:=fun φ L C=>∃c,r6 R Γ ⟨dK ps (ae st),ae st,[]⟩ (bodyOf st) φ L c/\mg c=some (.ref C)) l c S (hb kV doc pm an aU ct) fun A s H hr =>
  fun {_ _ _ _ _ _ _ _} b I l0 cv q=>vW (T.ct ⟨rfl,rfl,rfl,rfl,rfl,rfl⟩ hr) (Q.ok ⟨rfl,rfl,rfl,rfl,rfl,rfl⟩ hr b.gd) ⟨rfl,S.nd,nm,fun _ h=>h,fun _ h=>⟨h,rfl⟩,fun x h=>absurd rfl (S.ji (x,.free) (Pt h)),fun _ h=>h,fun x F h=>(by cases h)⟩ _ b I l0 cv q
 refine⟨yU ⟨hd,f,fun {_ _ _ _ _ _ _ _} a b c d e g q=>?_,hm,F.kp⟩ (Q.mono (RF n)).rs,Q.xs⟩;obtain⟨cn,⟨q1,q2⟩,q3⟩:=q;exact FR a b c d e g ⟨q1,cn,q2,q3⟩
noncomputable def FI (P:Pp) (w:Qn) (K:O7) (mg:Str->Option OE) (cls:Str->Option Pf) (base:Heap) (k:Nat) (f:Pf) (m:Fn):Prop :=
 ∀{A:Pm} {s:OH} {g:G} {L L':Live} {us:List OE} {xs:List T} {t:T},bY k A->A.guards=some []->A.frames=some []->Env0 P w K mg cls base s g L->bz g xs us->m xs L=.ok t L'->codeAny (model P w) A (.call (.ref f) ⟨us,[]⟩) (CR g s t L') s
theorem FJ {k:Nat} {name:Str} {params:Arguments} {body:List Stmt} {dV kV doc pm aU ct oc:OE} {an od:Option Pf} {kz:Array (Option OE)} {mb:SS} (lk:K.lookup f=some ⟨oc,od,.func (P5 name qual params body scope dV kV doc pm an aU ct),kz⟩) (hcd:Rm K aU qual=true) (S:eO N ps scope)
  (gQ:∀us:List OE,us.length=ps.length->bindArgs (P5 name qual params body scope dV kV doc pm an aU ct) ⟨us,[]⟩=pure (ps.zip us))
  (d8:∀(A:Pm) (s:OH) (H:Hp),bY k (A.deeper (envOfC qual scope s.heap.objs.size f aU))->CX (jX P w K mg cls base N qual scope f aU A s H) []->xw (jX P w K mg cls base N qual scope f aU A s H) body mb) :
  FI P w K mg cls base (k+1) f (run ps.length N.length mb):=fun {A s g L L' us xs t} hr xE nu e0 r gR=>by
 unfold run at gR;split at gR
 ·rename_i hl
  refine jH lk hcd S gQ hr e0 r hl fun s1 I _=>?_
  have nb:mb (xs.map some++Pd (N.length - ps.length) none) L≠.bad:=fun z=>by rw [z] at gR;cases gR
  refine wpAny_mono (d8 A s g.H (hr.deeper _) ⟨rfl,S9 nu,rfl,xE⟩ I nb) (fun fl s' ⟨g',l,hs⟩=>?_) fun e s' hs=>hs.elim
  cases eb:mb (xs.map some++Pd (N.length - ps.length) none) L with
  | nx φ' L1 =>
   rw [eb] at hs gR;cases fl <;> first|exact hs.elim|exact qQ e0 hs.os hs.bare hs.base hs.hok l hs.rel .bK gR
  | rt t0 L1 =>
   rw [eb] at hs gR;cases fl <;> first|exact hs.elim|skip
   obtain⟨⟨φ',J⟩,rt⟩:=hs;exact qQ e0 J.os J.bare J.base J.hok l J.rel rt gR
  | _=>rw [eb] at gR;cases gR
 ·cases gR
theorem FK {X:Cx} {fa:Pf} {k:Nat} {x:Str} {F:Fn} {e:Expr} {es:List Expr} {ms:List SE} {p pos:Pos} (c:CX X []) (hF:Fy X.prog X.w X.K X.mg X.cls X.base k fa (fun xs L t=>F xs L=.ok t L)) (hL:∀xs L t L1,F xs L=.ok t L1->L1=L) (hr:bY k X.A) (hm:X.mg x=some (.ref fa)) (hk:PW X.K (.ref fa)=true) (pz:(x == ("__debug__":Str))=false) (hg:Gl X x) (hs:(e::es).all aC=true) (ha:PA X (e::es) (d5 ms)):PE X (.Call (.Name x p) (e::es) [] pos) (aq F ms):=fun {pins φ g L s t L'} I h=>by
 obtain⟨ts,L1,e1,h⟩:=R.of h;obtain rfl:=hL _ _ _ _ h;rw [PK,ON] at hs;refine wpAny_Call_Name_kw (a7 (eK I hg hm (Sb (h₀:=X.base) I.ok.mod.zP hk (a7 (ha pos I e1) fun us s1 ⟨g1,l1,I1,r1⟩=>⟨I1.DD,?_⟩) (ah hs.1) (aP hs.2)) pz) fun _ _ z=>z);have I0:Inv X [] φ g1 L' s1:={ I1 with pin:=fun _ z=>(by cases z) }
 have cv:jW X.base X.s₀.heap [] []:=fun _ z=>(by cases z)
 refine wpAny_call (codeAny_mono (hF hr c.gd c.fr I1.xY (I0.tB c.lf cv) r1 h) fun r s' hq=>?_);cases r with
 | error e=>exact SF hq
 | ok fl =>
  cases fl with
  | ret u =>
   obtain⟨g',os,bare,un,IU,hok,l2,rel,rt⟩:=hq;obtain⟨P',_,J⟩:=I0.shift c.ex c.lf cv os bare l2 rel hok (fun b o e n hb=>⟨un.keep b o e n hb,un.free b o e n hb⟩) IU;refine⟨g',l1.trans l2,{ J with pin:=fun q hq=>?_ },rt⟩;obtain⟨h1,h2,h3,h4⟩:=I1.pin q hq;have nf:q.1∉d6 [X.env]:=by
    rw [fE _ _ c.lf];intro z;rcases OS.mp z with z|z
    ·exact h3 z
    ·cases z
   exact⟨un.keep _ _ h1 h2 nf,un.free _ _ h1 h2 nf,h3,h4⟩
  | _=>exact SF hq
noncomputable def KY (fc:List (Str × Fn)) (Γ:Ct) (ps:List Str) (st:Stmt) (m:Fn):Prop:=n6 ps (ae st)=true/\run ps.length (dK ps (ae st)).length (code Γ ⟨dK ps (ae st),ae st,fc⟩ (bodyOf st))=m
theorem Tab.MU {y:Str} {G:Fn} {fb:Pf} (T:Tab P w K mg cls base n Γ) (hF:Fy P w K mg cls base n fb (fun xs L t=>G xs L=.ok t L)) (hL:∀xs L t L1,G xs L=.ok t L1->L1=L) (my:mg y=some (.ref fb)) (ky:PW K (.ref fb)=true) (dy:(y == ("__debug__":Str))=false) (F:qf K x qual st f) (e:KY [(y,G)] Γ ps st m)
  (hb:∀(kV doc pm:OE) (an:Option Pf) (aU ct:OE) (us:List OE),us.length=ps.length->bindArgs (P5 x qual (eW st) (bodyOf st) (ae st) .none kV doc pm an aU ct) ⟨us,[]⟩=pure (ps.zip us)):FI P w K mg cls base (n+1) f m:=by
 obtain⟨ok,e⟩:=e;subst e;obtain⟨oc,od,kV,doc,pm,an,aU,ct,kz,l,c⟩:=F.ex;obtain⟨S,nm⟩:=i4 ok;refine FJ l c S (hb kV doc pm an aU ct) fun A s H hr hc=>mH (T.ct ⟨rfl,rfl,rfl,rfl,rfl,rfl⟩ hr) ⟨rfl,S.nd,nm,fun _ h=>h,fun _ h=>⟨h,rfl⟩,fun x h=>absurd rfl (S.ji (x,.free) (Pt h)),fun _ h=>h,fun z F q e0 es ms p pos g1 h1 h2=>?_⟩ _
 have q2:VB z [(y,G)]=some F:=q;clear q;rw [Ph] at q2;split at q2
 ·rename_i ez
  cases eq_of_beq ez;cases q2;exact fun {_ _ _ _ _ _ _} I q=>FK hc hF hL hr my ky dy g1 h1 h2 I q
 ·cases q2
theorem tC {mb:Str->Option OE} {k:Nat} {fa a:Pf} {s₁:OH} {vs:List OE} {ns:List Int}
  (KX:K.In s₁.heap) (IY:s₁.heap.Ns P0 mg) (hb:s₁.heap.Ns builtinsNs mb) (MV:∀x:Str,x≠"__name__"->mb x=bootBuiltins x) (IZ:s₁.heap.NoLimit) (hg:s₁.gens = #[])
  (ha:s₁.heap.get? a=some { cls:=.type "list",data:=.seq vs.toArray }) (hi:IntsAre vs ns) (hl:ns.length<=O6) (hr:bY k callerA)
  (hF:FI P w K mg cls s₁.heap k fa m) (hm:∃L',m [.lst (ns.map .int)] []=.ok (.bl true) L') :
  codeAny (model P w) callerA (.call (.ref fa) ⟨[.ref a],[]⟩) (fun r s'=>r=.ok (.ret (.bool true))/\OldK s₁.heap s'.heap/\s'.os=s₁.os/\AllBare s'.gens) s₁:=by
 obtain⟨L',hm⟩:=hm
 let g:G:=⟨fun _=>none,[],s₁.heap,cls,w⟩
 have r:bz g [.lst (ns.map T.int)] [.ref a]:=.cons ((n8 hi).lst (o:=default) (Le.refl g) (.inl rfl) (.inr ⟨rfl,ha⟩) (by simpa using hl)) .nil;have e0:Env0 P w K mg cls s₁.heap s₁ g []:=⟨⟨KX,IY,⟨mb,hb,MV⟩,IZ⟩,fun b o e=>⟨e,rfl⟩,OR _,fun a b o z=>(by cases z),.of_eq hg,⟨rfl,fun n c z=>(by cases z),fun n m p q z=>(by cases z),fun n p z=>(by cases z)⟩,rfl,rfl,rfl⟩
 refine codeAny_mono (hF hr rfl rfl e0 r hm) fun r s' h=>?_
 cases r with
 | error e=>exact SF h
 | ok fl =>
  cases fl with
  | ret u =>
   obtain⟨g',os,bare,un,hok,l,rel,rt⟩:=h;cases rt;exact⟨rfl,OldK.of_keep fun b o e=>un.keep b o e rfl (by simp),os,bare⟩
  | _=>exact SF h
theorem vX {l:PySem.W.OpenLaw} {n k:Nat} {q:Pp} {loose:List Str} {XP:(Str->Option OE)->Heap->Prop} {YP:Qn->Heap->Prop} {d:DefRec} {K:Params->O7} {m:Fn}
  (hn:l.most=some n) (xW:n<=O6) (IG:d.params.defaults=[]) (hr:bY k callerA) (hY:∀(w:Qn) (h:Heap),YP w h->(K w.params).In h)
  (F:∀(w:Qn) (mg:Str->Option OE) (fa:Pf) (h:Heap),(K w.params).In h->h.Ns P0 mg->mg d.name=some (.ref fa)->∃cls,∀base:Heap,(K w.params).In base->base.Ns P0 mg->FI l.prog w (K w.params) mg cls base k fa m)
  (hm:∀ns:List Int,ns.length<=n->∃L',m [.lst (ns.map .int)] []=.ok (.bl true) L'):PySem.W.WalkO q loose XP YP l.row.toRowW d [] (fun f vs=>PySem.call f vs):=by
 refine KR.og hn IG fun w s₀ s₁ mg mb fa o pm cd doc a vs ns G Y ho hd hcd hmg Cu hints hlen hg=>?_
 have KX:=hY w _ Y;obtain⟨cls,hF⟩:=F w mg fa _ KX G.T.g hmg;exact tC KX G.T.g G.T.b G.T.builtins G.T.nolimit hg Cu hints (Pq hlen xW) hr (hF _ KX G.T.g) (hm ns hlen)
theorem tab_of (B:List Stmt) (Γ:Ct) (cn:List Str) (ds:List Df) {k:Nat} (X:K.In h) (G:h.Ns P0 mg) (o:Cy B Γ ds) (hk:dep ds=k) (h0:Γ.fn=[]/\Γ.me=[])
  (hd:((Γ.co.all fun p=>!(p.1 == ("__debug__":Str))) && Γ.us.all fun x=>!(x == ("__debug__":Str)) && !(x == ("__name__":Str)))=true)
  (c1:AllP (Ah K) Γ.co) (c2:AllP (Hu K) Γ.us) (c3:AllP (Fj K Γ.fl) cn) (c4:AllP (DU B K cn) ds) (KB:K.In base):Tab P w K mg (mI K cn) base k (adds Γ ds):=by
 simp only [ON,OD,RR] at hd;have T0:Tab P w K mg (mI K cn) base 0 Γ:=by
  refine⟨fun x F q=>by(rw [h0.1] at q;cases q),fun x t q=>?_,fun x hx=>⟨PySem.W.mg_none_of X G (c2.of x hx),fun z=>?_,(hd.2 x hx).1⟩,fun c C e=>?_,fun y mf q=>by(rw [h0.2] at q;cases q)⟩
  ·have hm:=Pt q
   obtain⟨u,h1,h2⟩:=c1.of _ hm;exact⟨hd.1 _ hm,u,So X G h1,fun g hB _ _=>h2.rt (by rw [hB];exact KB)⟩
  ·have:=(hd.2 x hx).2;rw [z] at this;exact absurd this (by decide)
  ·obtain⟨h1,h2⟩:=vN e
   obtain⟨C',e',ck,_,_,na⟩:=c3.of c h1;rw [h2] at e';cases e';exact⟨ck,na.of⟩
 have T:=Tab.all X G c3 ds T0 o c4;rw [UZ,hk] at T;exact T
theorem FL {cls:Str->Option Pf} {xs:List Str} (h:∀x∈xs,(x == ("__debug__":Str))=false/\∃C,mg x=some (.ref C)/\RU K C Fo vO=true) {n:Nat}:iW P w K mg cls base n ⟨[],xs⟩:=⟨fun x mr q=>(by cases q),h⟩
end
open Classical in
def tD (mc:Fn) (mr:y8) (c:Str):Fn:=fun xs L=>match xs with
 | [x1,x2]=>match mc [x1,x2] L with
  | .ok t L1=>bD (L1=L) (.ok (.lst [t]) L)
  | .bad=>bD (mr [x1,x2] L c) (.ok (.lst []) L)
 | _=>.bad
open Classical in
theorem mK {mc:Fn} {mr:y8} {c:Str} {xs:List T} {L L1:Live} {t:T} (h:tD mc mr c xs L=.ok t L1):L1=L/\∃x1 x2,xs=[x1,x2]/\((∃u,mc [x1,x2] L=.ok u L/\t=.lst [u])\/(mr [x1,x2] L c/\t=.lst [])):=by
 unfold tD at h;split at h
 ·split at h
  ·rename_i e
   obtain⟨h1,h2⟩:=ao h;cases h2;subst h1;exact⟨rfl,_,_,rfl,.inl ⟨_,e,rfl⟩⟩
  ·obtain⟨h1,h2⟩:=ao h
   cases h2;exact⟨rfl,_,_,rfl,.inr ⟨h1,rfl⟩⟩
 ·cases h
section
variable {P:Pp} {w:Qn} {K:O7} {mg:Str->Option OE} {cls:Str->Option Pf} {base:Heap} {ps:List Str} {qual x:Str} {f:Pf} {n:Nat} {Γ:Ct} {st:Stmt} {R:Rt} {mr:y8} {mc:Fn}
theorem zf {nm v u c0:Str} {e0:Expr} {es:List Expr} {C:Pf} {rest:List Stmt} {n0 n1 n2:Nat} {p0 p1 p2 p3 p4 p5 p6 p7 p8 p9 q1 q2 q3 q4 q5 q6:Pos}
  (T:Tab P w K mg cls base n Γ) (Q:iW P w K mg cls base n R) (F:qf K x qual st f) (ok:n6 ps (ae st)=true) (l2:ps.length=2) (h4:(dK ps (ae st)).length=4) (rs:R.rs.lookup nm=some mr) (fn:Γ.fn.lookup nm=some mc) (gl:(ae st).names.lookup nm=some .globalImplicit) (oa:(e0::es).all aC=true)
  (hb:∀(kV doc pm:OE) (an:Option Pf) (aU ct:OE) (us:List OE),us.length=ps.length->bindArgs (P5 x qual (eW st) (bodyOf st) (ae st) .none kV doc pm an aU ct) ⟨us,[]⟩=pure (ps.zip us))
  (body:bodyOf st=.Assign [.Name v p0] (.Constant .none n0 p1) p2 :: .Assign [.Name u p3] (.Constant (.bool true) n1 p4) p5 :: .Try [.Assign [.Name v p6] (.Call (.Name nm p7) (e0::es) [] p8) p9] [.ExceptHandler (some (.Name c0 q1)) none [.Assign [.Name u q2] (.Constant (.bool false) n2 q3) q4] q5] [] [] q6::rest)
  (hj:(dK ps (ae st))[2]?=some v) (hu:(dK ps (ae st))[3]?=some u) (hv:(ae st).names.lookup v=some .local) (KZ:(ae st).names.lookup u=some .local) (g0:(ae st).names.lookup c0=some .globalImplicit) (d0:(c0 == ("__debug__":Str))=false) (m0:mg c0=some (.ref C)) (eb:Ve K (.ref C) (.ref C)=some true)
  (ha:∀x1 x2 L,d5 ((e0::es).map (cX Γ 40 ⟨dK ps (ae st),ae st,[]⟩).E) [some x1,some x2,some .bK,some (.bl true)] L=.ok [x1,x2] L)
  (Hr:∀x1 x2 t L,code Γ ⟨dK ps (ae st),ae st,[]⟩ rest [some x1,some x2,some t,some (.bl true)] L=.rt (.lst [t]) L) (HW:∀x1 x2 L,code Γ ⟨dK ps (ae st),ae st,[]⟩ rest [some x1,some x2,some .bK,some (.bl false)] L=.rt (.lst []) L) :
  Fy P w K mg cls base (n+1) f (fun xs L t=>tD mc mr c0 xs L=.ok t L):=by
 obtain⟨oc,od,kV,doc,pm,an,aU,ct,kz,lk,cc⟩:=F.ex;obtain⟨S,MW⟩:=i4 ok;refine FA (m:=fun xs L t=>tD mc mr c0 xs L=.ok t L) lk cc S (hb kV doc pm an aU ct) (fun xs L t h=>?_) fun {A s s1 g L l P' xs t} hr xE nu hm cv I=>?_
 ·obtain⟨_,x1,x2,rfl,_⟩:=mK h
  exact l2.symm
 ·obtain⟨_,x1,x2,rfl,vb⟩:=mK hm
  clear hm;have e5:([x1,x2].map some++Pd ((dK ps (ae st)).length - ps.length) none:Fr)=[some x1,some x2,none,none]:=by rw [l2,h4];rfl
  rw [e5] at I;have sc:bZ (lh P w K mg cls base (dK ps (ae st)) qual (ae st) f aU A s g.H l) ⟨dK ps (ae st),ae st,[]⟩:=⟨rfl,S.nd,MW,fun _ h=>h,fun _ h=>⟨h,rfl⟩,fun x h=>absurd rfl (S.ji (x,.free) (Pt h)),fun _ h=>h,fun x F h=>(by cases h)⟩
  have K0:=T.ct (X:=lh P w K mg cls base (dK ps (ae st)) qual (ae st) f aU A s g.H l) ⟨rfl,rfl,rfl,rfl,rfl,rfl⟩ hr;have hB:=iG 40 (lh P w K mg cls base (dK ps (ae st)) qual (ae st) f aU A s g.H l) ⟨dK ps (ae st),ae st,[]⟩ K0 sc
  have cx:CX (lh P w K mg cls base (dK ps (ae st)) qual (ae st) f aU A s g.H l) l:=⟨rfl,S9 nu,rfl,xE⟩;have Sv:o8 (lh P w K mg cls base (dK ps (ae st)) qual (ae st) f aU A s g.H l) 2 v:=⟨S.nd,hj,.inl hv,.inr hv⟩
  have Su:o8 (lh P w K mg cls base (dK ps (ae st)) qual (ae st) f aU A s g.H l) 3 u:=⟨S.nd,hu,.inl KZ,.inr KZ⟩;have fin:∀{P2:ar} {φ2:Fr} {g2:G} {s2:OH},jW base s.heap l P2->Le g g2->Inv (lh P w K mg cls base (dK ps (ae st)) qual (ae st) f aU A s g.H l) P2 φ2 g2 L s2->code Γ ⟨dK ps (ae st),ae st,[]⟩ rest φ2 L=.rt t L ->
    O3 (model P w) (A.deeper (envOfC qual (ae st) s.heap.objs.size f aU)) (execs rest (envOfC qual (ae st) s.heap.objs.size f aU)) (fun fl s'=>∃u,fl=.ret u/\∃P2 φ2 g2,jW base s.heap l P2/\Le g g2/\Inv (lh P w K mg cls base (dK ps (ae st)) qual (ae st) f aU A s g.H l) P2 φ2 g2 L s'/\RT g2 none t u) F0 s2:=fun {P2 φ2 g2 s2} IW l0 J e=>by
   refine wpAny_mono (mH K0 sc rest J (by rw [e];exact fun z=>by cases z)) (fun fl s' z=>?_) fun _ _ z=>z
   rw [e] at z;obtain⟨g3,l3,z⟩:=z;cases fl <;> first|exact z.elim|skip
   obtain⟨⟨φ3,J3⟩,rt⟩:=z;exact⟨_,rfl,P2,φ3,g3,IW,l0.trans l3,J3,rt⟩
  rw [body];refine wpAny_execs_cons (hV (X:=lh P w K mg cls base (dK ps (ae st)) qual (ae st) f aU A s g.H l) rfl (Constant_none (d7 I Sv .bK fun s2 I2 _=>?_)));refine wpAny_execs_cons (hV (X:=lh P w K mg cls base (dK ps (ae st)) qual (ae st) f aU A s g.H l) rfl (Constant_bool (d7 I2 Su (.bl true) fun s3 I3 _=>?_)));have I3:Inv (lh P w K mg cls base (dK ps (ae st)) qual (ae st) f aU A s g.H l) P' [some x1,some x2,some .bK,some (.bl true)] g L s3:=I3
  refine wpAny_execs_cons ?_;rcases vb with⟨a,ea,rfl⟩|⟨MX,rfl⟩
  ·obtain⟨h1,fa,h2,h3,h5⟩:=T.fn _ _ fn
   refine wpAny_Try_except (wpAny_execs_cons (hV (X:=lh P w K mg cls base (dK ps (ae st)) qual (ae st) f aU A s g.H l) rfl (wpAny_mono (ux (X:=lh P w K mg cls base (dK ps (ae st)) qual (ae st) f aU A s g.H l) (pv h2 hr) gl h3 h5 (bO hB oa) oa h1 I3 (show aq mc ((e0::es).map (cX Γ 40 ⟨dK ps (ae st),ae st,[]⟩).E) _ L=.ok a L by unfold aq;rw [ha];exact ea)) (fun y s4 ⟨g4,l4,I4,r4⟩=>?_) fun _ _ z=>z.elim)));refine d7 I4 Sv r4 fun s5 I5 _=>wpAny_execs_nil (wpAny_execs_nil ?_)
   exact fin cv l4 I5 (Hr x1 x2 a L)
  ·obtain⟨d,fa,FR,MY,kp⟩:=Q.rs _ _ rs
   refine Fw (C:=C) (φ:=[some x1,some x2,some .bK,some (.bl true)]) (L:=L) (g₀:=g) cx.ex cx.fr cx.lf (wpAny_execs_cons (hV (X:=lh P w K mg cls base (dK ps (ae st)) qual (ae st) f aU A s g.H l) rfl (wpAny_mono (CH (X:=lh P w K mg cls base (dK ps (ae st)) qual (ae st) f aU A s g.H l) FR hr gl MY kp (bO hB oa) oa d xE cx.fr cx.lf I3 cv ⟨_,ha x1 x2 L,c0,MX,m0⟩) (fun _ _ z=>z.elim) fun _ _ z=>z))) fun y g' B a0 s4 l4 Tl=>?_
   refine Fx Tl g0 m0 eb d0 fun h' P4 MZ I4=>?_
   refine wpAny_execs_cons (hV (X:=lh P w K mg cls base (dK ps (ae st)) qual (ae st) f aU A s g.H l) rfl (Constant_bool (d7 I4 Su (.bl false) fun s5 I5 _=>wpAny_execs_nil ?_)));exact fin MZ l4 I5 (HW x1 x2 L)
end
end M
namespace M
open PySem
theorem fin_same {L:Live} {t:T} (h:lt L.length t=true):fin L t L=.ok t L:=by
 unfold fin;rw [if_pos (show old L (L.drop (L.length - L.length)) from fun n c e=>.inl (by simpa using e))];simp only [Nat.sub_self,TU];unfold eY;rw [if_pos h];rfl
theorem aZ {α β:Type} (a:α) (L:Live) (f:α->Live->R β):(R.ok a L).bind f=f a L:=rfl
theorem of_ok {α:Type} (a:α) (L:Live) (f:α->Live->O):O.of (.ok a L) f=f a L:=rfl
theorem mL (φ:Fr) (L:Live) (f:Fr->Live->O):(O.nx φ L).next f=f φ L:=Eq.trans rfl rfl
theorem zi (t:T) (L:Live) (f:Fr->Live->O):(O.rt t L).next f=.rt t L:=rfl
theorem cF (t:T) (L:Live):lift (some t) L=.ok t L:=rfl
theorem CJ {α β:Type} (f:α->β) (a:α) (L:Live):R.map f (.ok a L)=.ok (f a) L:=rfl
theorem iJ {α:Type} {c:Prop} [Decidable c] {r:R α} (h:c):bD c r=r:=if_pos h
theorem CK {L:Live} {b:Bool}:fin L (.bl b) L=.ok (.bl b) L:=fin_same (by simp [lt])
theorem zj {L:Live} {b:Int}:fin L (.int b) L=.ok (.int b) L:=fin_same (by simp [lt])
theorem zk {L:Live} {b:Cs}:fin L (.str b) L=.ok (.str b) L:=fin_same (by simp [lt])
theorem zm {L:Live}:fin L .bK L=.ok .bK L:=fin_same (by simp [lt])
theorem bf {xs:List T} {i:Nat} {x:T} {L:Live} (h:xs[i]?=some x):ix (.lst xs) (.int i) L=.ok x L:=by
 obtain⟨hi,e⟩:=OY.mp h;simp [ix,vw,place,hi,e,lift]
theorem CL {α:Type} {b:Bool} {x y:α} {L:Live}:(if b=true then R.ok x L else R.ok y L)=R.ok (if b=true then x else y) L:=by cases b <;> rfl
theorem DY (i:Nat) (φ:Fr) (L:Live):v i φ L=((lift ((φ[i]?).join) L):R T):=rfl
theorem M0 (x:T) (φ:Fr) (L:Live):c x φ L=((.ok x L):R T):=rfl
theorem FN (a:SE) (f:T->Live->R T) (φ:Fr) (L:Live):b1 a f φ L=(((a φ L).bind f):R T):=rfl
theorem I8 (a b:SE) (f:T->T->Live->R T) (φ:Fr) (L:Live):b2 a b f φ L=(((a φ L).bind fun x L1=>(b φ L1).bind fun y L2=>f x y L2):R T):=rfl
theorem FO (a:SE) (φ:Fr) (L:Live):tv a φ L=(((a φ L).bind fun x L1=>match x with
 | .bl b=>.ok b L1
 | _=>.bad):R Bool):=rfl
theorem CM (a b:ST) (φ:Fr) (L:Live):xF a b φ L=(((a φ L).bind fun x L1=>if x=true then b φ L1 else .ok false L1):R Bool):=rfl
theorem FP (a b:ST) (φ:Fr) (L:Live):Hf a b φ L=(((a φ L).bind fun x L1=>if x=true then .ok true L1 else b φ L1):R Bool):=rfl
theorem vY (a:ST) (φ:Fr) (L:Live):eG a φ L=(((a φ L).map (!·)):R Bool):=rfl
theorem FQ (φ:Fr) (L:Live):yes  φ L=((.ok true L):R Bool):=rfl
theorem FT (ms:List SE) (φ:Fr) (L:Live):tup ms φ L=(((d5 ms φ L).bind fun ts L1=>.ok (.tup ts) L1):R T):=rfl
theorem FU (fz:Bool) (ms:List SE) (φ:Fr) (L:Live):lst fz ms φ L=(((d5 ms φ L).bind fun ts L1=>eE fz ts L1):R T):=rfl
theorem CN (fz:Bool) (φ:Fr) (L:Live):oY fz φ L=((mk fz (.aO []) L):R T):=rfl
theorem I9 (fz:Bool) (a:SE) (lo hi:Option SE) (φ:Fr) (L:Live):sl fz a lo hi φ L=(((a φ L).bind fun x L1=>(AJ lo φ L1).bind fun i L2=>(AJ hi φ L2).bind fun j L3=>oX fz x i j L3):R T):=rfl
theorem Ak (f:Fn) (ms:List SE) (φ:Fr) (L:Live):aq f ms φ L=(((d5 ms φ L).bind f):R T):=rfl
theorem r7 (a:SE) (φ:Fr) (L:Live):src a φ L=(((a φ L).bind fun x L1=>match items x L1 with
 | some xs=>.ok (xs,stays x L1) L1
 | none=>.bad):R (List T × (Live->Prop))):=rfl
theorem FV (φ:Fr) (L:Live):j9  φ L=((.bad):O):=rfl
theorem vZ (tg:Tg) (m:SE) (φ:Fr) (L:Live):asg tg m φ L=((O.of (m φ L) fun t L1=>match tg.set t φ with
 | some φ1=>.nx φ1 L1
 | none=>.bad):O):=rfl
theorem FW (m:SE) (φ:Fr) (L:Live):ja m φ L=((O.of (m φ L) fun _ L1=>.nx φ L1):O):=rfl
theorem FX (m:SE) (φ:Fr) (L:Live):ret m φ L=((O.of (m φ L) fun t L1=>.rt t L1):O):=rfl
theorem FY (k:ST) (a b:SS) (φ:Fr) (L:Live):iff k a b φ L=((O.of (k φ L) fun x L1=>if x=true then a φ L1 else b φ L1):O):=rfl
theorem CO (o i m:SE) (φ:Fr) (L:Live):sE o i m φ L=((O.of (m φ L) fun t L1=>O.of (o φ L1) fun x L2=>O.of (i φ L2) fun y L3=>match iP x y t L3 with
 | some L4=>.nx φ L4
 | none=>.bad):O):=rfl
theorem CP (op:Operator) (o i m:SE) (φ:Fr) (L:Live):ua op o i m φ L=((O.of (o φ L) fun x L1=>O.of (i φ L1) fun y L2=>O.of (D7 x y L2) fun z L3=>O.of (m φ L3) fun t L4=>O.of (ag op z t L4) fun r L5=>match iP x y r L5 with
 | some L6=>.nx φ L6
 | none=>.bad):O):=rfl
theorem v5 (s:SI) (tg:Tg) (b:SS) (φ:Fr) (L:Live):cw s tg b φ L=((O.of (s φ L) fun u L1=>forL u.2 tg b u.1 φ L1):O):=rfl
theorem lq (np nn:Nat) (b:SS) (xs:List T) (L:Live):run np nn b xs L=(if xs.length=np then match b (xs.map some++Pd (nn - np) none) L with
  | .rt t L'=>fin L t L'
  | .nx _ L'=>fin L .bK L'
  | _=>.bad
 else .bad):=rfl
theorem v7 (φ:Fr) (L:Live):af [] φ L=.nx φ L:=rfl
theorem jK (s:SS) (r:List SS) (φ:Fr) (L:Live):af (s::r) φ L=(s φ L).next (af r):=rfl
theorem zo (a:ST) (φ:Fr) (L:Live):mw [a] φ L=a φ L:=rfl
theorem zq (a b:ST) (r:List ST) (φ:Fr) (L:Live):mw (a::b::r) φ L=xF a (mw (b::r)) φ L:=rfl
theorem CQ (a:ST) (φ:Fr) (L:Live):sZ [a] φ L=a φ L:=rfl
theorem CS (a b:ST) (r:List ST) (φ:Fr) (L:Live):sZ (a::b::r) φ L=Hf a (sZ (b::r)) φ L:=rfl
theorem qg (φ:Fr) (L:Live):d5 [] φ L=.ok [] L:=rfl
theorem qh (m:SE) (ms:List SE) (φ:Fr) (L:Live):d5 (m::ms) φ L=((m φ L).bind fun t L1=>(d5 ms φ L1).bind fun ts L2=>.ok (t::ts) L2):=rfl
theorem CT (φ:Fr) (L:Live):AJ none φ L=.ok none L:=rfl
theorem CU (m:SE) (φ:Fr) (L:Live):AJ (some m) φ L=((m φ L).bind fun t L1=>match t with
  | .int i=>.ok (some i) L1
  | _=>.bad):=rfl
theorem v8 (f:Ty->Option (T->Fn)) (a:SE) (ms:List SE) (φ:Fr) (L:Live):aY f a ms φ L=((a φ L).bind fun x L1=>match (xG L1 x).bind f with
 | some F=>(d5 ms φ L1).bind fun ts L2=>F x ts L2
 | none=>.bad):=rfl
theorem mapM_map {α β:Type} {f:T->Option α} {g:β->T} {h:β->α} (hf:∀b,f (g b)=some (h b)):∀l:List β,(l.map g).mapM f=some (l.map h)
 | []=>rfl
 | b::l=>by rw [OZ,R2,hf,mapM_map hf l];rfl
theorem v9 {L Ln:Live} {t:T} (h:lt L.length t=true):fin L t (Ln++L)=.ok t L:=by
 have e:(Ln++L).drop ((Ln++L).length - L.length)=L:=by
  rw [OL,Sp,TZ]
 unfold fin;rw [e,if_pos (show old L L from fun n c e=>.inl e)];unfold eY;rw [if_pos h];rfl
theorem jL {s:Cs} {i:Int} {L:Live} (h0:0<=i) (h1:i<s.length):ix (.str s) (.int i) L=.ok (.str [s.getD i.toNat 0]) L:=by
 have hi:i.toNat<s.length:=by omega
 simp [ix,vw,place,h0,h1,lift,Gd9,hi]
theorem wa {sep:Cs} {zs:List Cs} {L:Live} (h:(zs.map (·.length)).sum+zs.length * sep.length<=16777216):da (.str sep) [.lst (zs.map .str)] L=.ok (.str (jn sep zs)) L:=by
 have:=mapM_map (f:=oU) (g:=T.str) (h:=id) (fun _=>rfl) zs;simp [da,items,vw,this,bD,h]
theorem zr {x:T} {L:Live} (h:∀n,x≠.ref n) (L':Live):stays x L L':=fun n e=>absurd e (h n)
theorem aJ {x:T} {L:Live}:stays x L L:=fun n e=>rfl
noncomputable def M1:T->Bool
 | .ref _=>true
 | _=>false
theorem sv {x:T} {L L':Live} (h:M1 x=false:=by rfl):stays x L L':=fun n e=>by subst e;cases h
end M
namespace FZ
open PySem
abbrev qi:Str:="abcdefghijklmnopqrstuvwxyz"
abbrev iy:Str:="ABCDEFGHIJKLMNOPQRSTUVWXYZ"
abbrev CV:Str:="0123456789"
noncomputable def jM (c:Nat):Bool:=decide (c∈qi.cps.toList) || (decide (c∈iy.cps.toList) || decide (c∈CV.cps.toList))
noncomputable def zw (l:List Nat):Nat:=(l.takeWhile jM).length
noncomputable def cB (p:List Nat):Bool:=decide (1<=p.length) && (decide (p.length<=12) && p.all jM)
end FZ
namespace Bk
open PySem FZ
abbrev Cs:=List Nat
theorem eX {s:Cs} (h:cB s=true):1<=s.length/\s.length<=12:=by
 unfold cB at h;simp only [ON,decide_eq_true_eq] at h;exact⟨h.1,h.2.1⟩
theorem Am {s:Cs} (h:cB s=true):∀c∈s,jM c=true:=by
 unfold cB at h;simp only [ON,OD] at h;exact h.2.2
structure Fc where
 k:Cs
 as:List Cs
structure Kd where
 n:Cs
 c:Nat
 l:Bool
noncomputable def great (x:Cs):Bool:=decide (x.headD 0∈iy.cps.toList)
noncomputable def cS (x:Cs) (acc:List Cs):List Cs:=if great x=true then (if x∈acc then acc else acc++[x]) else acc
noncomputable def ax (l:List Cs) (acc:List Cs):List Cs:=l.foldl (fun acc x=>cS x acc) acc
theorem bt:∀(l:List Cs) {acc:List Cs} (x:Cs),x∈ax l acc↔x∈acc\/(x∈l/\great x=true)
 | [],acc,x=>by simp [ax]
 | n::ns,acc,x=>by
  show x∈ax ns (cS n acc)↔_;rw [bt ns];have e:x∈cS n acc↔x∈acc\/(x=n/\great x=true):=by
   unfold cS;by_cases g:great n=true
   ·by_cases hm:n∈acc <;> simp only [g,hm,if_true,if_false,OU,OK]
    ·exact⟨.inl,fun z=>z.elim id fun z=>z.1 ▸ hm⟩
    ·exact or_congr_right ⟨fun z=>⟨z,z ▸ g⟩,And.left⟩
   ·rw [if_neg g]
    exact⟨.inl,fun z=>z.elim id fun z=>absurd (z.1 ▸ z.2) g⟩
  rw [e,OS,or_assoc,<- or_and_right]
theorem cG:∀(l acc:List Cs),acc.Nodup->(ax l acc).Nodup
 | [],_,h=>h
 | x::r,acc,h=>cG r _ (by
  show(cS x acc).Nodup;unfold cS;split
  ·split
   ·exact h
   ·rename_i hx
    exact Q2.mpr ⟨h,by simp,fun a ha b hb e=>hx (by rw [<- OK.mp hb,<- e];exact ha)⟩
  ·exact h)
theorem oo (x:Cs) (acc:List Cs):(cS x acc).length<=acc.length+1:=by unfold cS;split <;> (try split) <;> simp
theorem tE (l acc:List Cs):(ax l acc).length<=acc.length+l.length:=by
 induction l generalizing acc with
 | nil=>simp [ax]
 | cons x l ih =>
  have h1:=ih (cS x acc);have h2:=oo x acc
  show(ax l (cS x acc)).length<=_;rw [OP];omega
theorem jN {sep:Cs} {B:Nat}:∀{ls:List Cs},(∀l∈ls,l.length<=B)->(M.jn sep ls).length<=ls.length * (B+sep.length)
 | [],_=>Pg _
 | [a],h=>by
  have:=h a OI;show a.length<=1 * _
  omega
 | a::b::r,h=>by
  have z:=jN (sep:=sep) (ls:=b::r) fun l hl=>h l (OG _ hl)
  have:=h a OI;show(a++sep++M.jn sep (b::r)).length<=((b::r).length+1) * _
  rw [OL,OL,Nat.succ_mul];omega
noncomputable def aR (g:Fc):Cs:=if g.as=[] then g.k else ((g.k++[40])++M.jn [44] g.as)++[41]
end Bk
namespace M
open PySem
open Bk (Fc Kd)
noncomputable def fT (f:Fc):T:=.tup [.str f.k,.tup (f.as.map .str)]
noncomputable def pT (p:Cs × Cs):T:=.tup [.str p.1,.str p.2]
end M
namespace Bk
open PySem FZ
noncomputable def lr (ks:List Kd):List Cs:=(ks.filter (·.l)).map (·.n)
noncomputable def aK (ks:List Kd) (f:Fc):Prop:=∃k∈ks,k.n=f.k/\f.as.length=k.c
theorem lx:∀(l m:List Cs),l.Nodup->(∀x∈l,x∈m)->l.length<=m.length
 | [],_,_,_=>Pg _
 | x::r,m,nd,h=>by
  have hx:=h x (OI ..);have nr:=Qc.mp nd
  have z:=lx r (m.erase x) nr.2 fun y hy=>(List.mem_erase_of_ne (fun e=>nr.1 (by rw [<- e];exact hy))).mpr (h y (OG _ hy))
  rw [R8 hx] at z;have:1<=m.length:=UP hx
  rw [OP];omega
deriving instance DecidableEq for Fc
theorem ly {α:Type} [DecidableEq α]:∀(l b:List α),(∀f,l.count f<=b.count f)->l.length<=b.length
 | [],_,_=>Pg _
 | x::l,b,h=>by
  have hx:x∈b:=by
   have z:=h x;rw [List.count_cons_self] at z;exact TR.mp (by omega)
  have ih:=ly l (b.erase x) fun f=>by
   have z:=h f;rw [List.count_cons] at z;rw [List.count_erase];by_cases e:x=f
   ·subst e
    simp only [beq_self_eq_true,if_true] at z ⊢;omega
   ·have e1:(x == f)=false:=by simpa using e
    simp only [e1,OQ,if_false] at z ⊢;omega
  have hp:=UP hx;rw [R8 hx] at ih;rw [OP];omega
end Bk
namespace Un
section
variable {α:Type} [DecidableEq α] (great:α->Bool) (lt:α->α->Bool)
structure Ord:Prop where
 pF:∀a,lt a a=false
 tr:∀a b c,lt a b=true->lt b c=true->lt a c=true
 K1:∀a b,lt a b=false->lt b a=false->a=b
noncomputable def mn (a b:α):α:=if lt b a=true then b else a
noncomputable def dF (p q:α):α:=if great p=false then p else if great q=false then q else mn lt p q
structure fh (one:List α) (r:α):Prop where
 mem:r∈one
 low:great r=false\/((∀x∈one,great x=true)/\∀x∈one,lt x r=false)
noncomputable def lA (one:List α):Prop:=∀x∈one,∀y∈one,great x=false->great y=false->x=y
variable {great lt}
theorem fh.uniq (o:Ord lt) {one F4:List α} (hs:∀x,x∈one↔x∈F4) (hw:lA great one) {r r':α} (h:fh great lt one r) (h':fh great lt F4 r'):r=r':=by
 have m':r'∈one:=(hs r').mpr h'.mem;rcases h.low with a|⟨a1,a2⟩
 ·rcases h'.low with b|⟨b1,b2⟩
  ·exact hw r h.mem r' m' a b
  ·have z:=b1 r ((hs r).mp h.mem)
   rw [a] at z;cases z
 ·rcases h'.low with b|⟨b1,b2⟩
  ·have z:=a1 r' m'
   rw [b] at z;cases z
  ·exact o.K1 r r' (b2 r ((hs r).mp h.mem)) (a2 r' m')
theorem wb (a b:α):mn lt a b=a\/mn lt a b=b:=by
 unfold mn;split
 ·exact .inr rfl
 ·exact .inl rfl
theorem CW (o:Ord lt) {a b x:α} (h:lt x a=false\/lt x b=false):lt x (mn lt a b)=false:=by
 unfold mn;cases hb:lt b a with
 | true =>
  rw [if_pos rfl];rcases h with h|h
  ·cases hx:lt x b with
   | false=>rfl
   | true=>rw [o.tr x b a hx hb] at h;cases h
  ·exact h
 | false =>
  rw [if_neg (by simp)];rcases h with h|h
  ·exact h
  ·cases hx:lt x a with
   | false=>rfl
   | true =>
    cases hab:lt a b with
    | true=>rw [o.tr x a b hx hab] at h;cases h
    | false =>
     have e:=o.K1 a b hab hb;rw [e,h] at hx;cases hx
theorem tF (o:Ord lt) {A B both:List α} {p q:α} (hs:∀x,x∈both↔x∈A\/x∈B) (hp:fh great lt A p) (hq:fh great lt B q):fh great lt both (dF great lt p q):=by
 unfold dF;by_cases h1:great p=false
 ·rw [if_pos h1]
  exact⟨(hs p).mpr (.inl hp.mem),.inl h1⟩
 ·rw [if_neg h1]
  by_cases h2:great q=false
  ·rw [if_pos h2]
   exact⟨(hs q).mpr (.inr hq.mem),.inl h2⟩
  ·rw [if_neg h2]
   rcases hp.low with a|⟨a1,a2⟩
   ·exact absurd a h1
   rcases hq.low with b|⟨b1,b2⟩
   ·exact absurd b h2
   refine⟨?_,.inr ⟨fun x hx=>?_,fun x hx=>CW o ?_⟩⟩
   ·rcases wb (lt:=lt) p q with e|e
    ·rw [e];exact(hs p).mpr (.inl hp.mem)
    ·rw [e];exact(hs q).mpr (.inr hq.mem)
   ·rcases(hs x).mp hx with h|h
    ·exact a1 x h
    ·exact b1 x h
   ·rcases(hs x).mp hx with h|h
    ·exact .inl (a2 x h)
    ·exact .inr (b2 x h)
noncomputable def go (a b:α):List (List α)->List α × List (List α)->List α × List (List α)
 | [],acc=>acc
 | one::r,acc=>if a∈one\/b∈one then go a b r (acc.1++one.filter (fun x=>decide (x∉acc.1)),acc.2) else go a b r (acc.1,acc.2++[one])
noncomputable def merged (cl:List (List α)) (a b:α):List (List α):=(go a b cl ([a,b],[])).2++[(go a b cl ([a,b],[])).1]
noncomputable def cls (cl:List (List α)) (x:α):List α:=(cl.find? fun one=>decide (x∈one)).getD [x]
theorem gg (a b:α):∀(cl:List (List α)) (acc:List α × List (List α)) (x:α),x∈(go a b cl acc).1↔x∈acc.1\/∃one∈cl,(a∈one\/b∈one)/\x∈one
 | [],acc,x=>by simp [go]
 | one::r,acc,x=>by
  unfold go;split
  ·rename_i h
   rw [gg a b r];constructor
   ·rintro(h1|⟨o,ho,h2,h3⟩)
    ·rcases OU.mp h1 with h1|h1
     ·exact .inl h1
     ·exact .inr ⟨one,OI ..,h,(Pl.mp h1).1⟩
    ·exact .inr ⟨o,OG _ ho,h2,h3⟩
   ·rintro(h1|⟨o,ho,h2,h3⟩)
    ·exact .inl (OU.mpr (.inl h1))
    ·rcases OS.mp ho with e|ho
     ·subst e
      by_cases hx:x∈acc.1
      ·exact .inl (OU.mpr (.inl hx))
      ·exact .inl (OU.mpr (.inr (Pl.mpr ⟨h3,decide_eq_true hx⟩)))
     ·exact .inr ⟨o,ho,h2,h3⟩
  ·rename_i h
   rw [gg a b r];constructor
   ·rintro(h1|⟨o,ho,h2,h3⟩)
    ·exact .inl h1
    ·exact .inr ⟨o,OG _ ho,h2,h3⟩
   ·rintro(h1|⟨o,ho,h2,h3⟩)
    ·exact .inl h1
    ·rcases OS.mp ho with e|ho
     ·subst e;exact absurd h2 h
     ·exact .inr ⟨o,ho,h2,h3⟩
theorem fF (a b:α):∀(cl:List (List α)) (acc:List α × List (List α)),(go a b cl acc).2=acc.2++cl.filter (fun one=>decide (¬ (a∈one\/b∈one)))
 | [],acc=>by simp [go]
 | one::r,acc=>by
  unfold go;split
  ·rename_i h
   rw [fF a b r,List.filter_cons_of_neg (by rw [decide_eq_true_iff];exact fun z=>z h)]
  ·rename_i h
   rw [fF a b r,List.filter_cons_of_pos (by rw [decide_eq_true_iff];exact h)];simp
noncomputable def jO (cl:List (List α)):Prop:=cl.Pairwise fun A B=>∀x∈A,x∉B
theorem jO.one {cl:List (List α)} (h:jO cl) {A B:List α} (hA:A∈cl) (hB:B∈cl) {x:α} (h1:x∈A) (h2:x∈B):A=B:=by
 induction cl with
 | nil=>cases hA
 | cons C r ih =>
  have hc:=QS.mp h;rcases OS.mp hA with e|hA'
  ·rcases OS.mp hB with e2|hB'
   ·rw [e,e2]
   ·subst e;exact absurd h2 (hc.1 B hB' x h1)
  ·rcases OS.mp hB with e2|hB'
   ·subst e2;exact absurd h1 (hc.1 A hA' x h2)
   ·exact ih hc.2 hA' hB'
theorem fG {cl:List (List α)} (h:jO cl) {A:List α} (hA:A∈cl) {x:α} (hx:x∈A):cls cl x=A:=by
 unfold cls;cases hf:cl.find? fun one=>decide (x∈one) with
 | none =>
  have z:=Qg.mp hf A hA;simp [hx] at z
 | some B =>
  have hB:=QN hf;have DZ:=Tr hf
  exact h.one hB hA (of_decide_eq_true DZ) hx
theorem wc {cl:List (List α)} {x:α} (h:∀A∈cl,x∉A):cls cl x=[x]:=by
 unfold cls;rw [Qg.mpr fun A hA=>by simpa using h A hA];rfl
theorem cH {cl:List (List α)} (h:jO cl) (x:α):(∃A∈cl,x∈A/\cls cl x=A)\/((∀A∈cl,x∉A)/\cls cl x=[x]):=by
 by_cases hx:∃A∈cl,x∈A
 ·obtain⟨A,hA,An⟩:=hx
  exact .inl ⟨A,hA,An,fG h hA An⟩
 ·have h2:∀A∈cl,x∉A:=fun A hA An=>hx ⟨A,hA,An⟩
  exact .inr ⟨h2,wc h2⟩
theorem h8 {cl:List (List α)} (h:jO cl) (x:α):x∈cls cl x:=by
 rcases cH h x with⟨A,_,h1,h2⟩|⟨_,h2⟩
 ·rw [h2];exact h1
 ·rw [h2];exact OK.mpr rfl
theorem qj {cl:List (List α)} (h:jO cl) {x y:α} (hy:y∈cls cl x):cls cl y=cls cl x:=by
 rcases cH h x with⟨A,hA,h1,h2⟩|⟨h1,h2⟩
 ·rw [h2] at hy ⊢
  exact fG h hA hy
 ·rw [h2] at hy
  rw [OK.mp hy]
theorem iK {cl:List (List α)} (h:jO cl) (a b:α):jO (merged cl a b):=by
 unfold merged;rw [fF,QE];refine QU.mpr ⟨h.filter _,List.pairwise_singleton _ _,fun A hA B hB x hx DZ=>?_⟩;rw [OK.mp hB,gg] at DZ;have E5:=(Pl.mp hA).1
 have Hv:=of_decide_eq_true (Pl.mp hA).2;rcases DZ with DZ|⟨C,hC,h2,h3⟩
 ·rcases OS.mp DZ with e|e
  ·exact Hv (.inl (e ▸ hx))
  ·exact Hv (.inr (OK.mp e ▸ hx))
 ·have e:=h.one E5 hC hx h3
  rw [e] at Hv;exact Hv h2
theorem jP {cl:List (List α)} (h:jO cl) (a b x:α):x∈(go a b cl ([a,b],[])).1↔x∈cls cl a\/x∈cls cl b:=by
 rw [gg];constructor
 ·rintro(hx|⟨C,hC,h2,h3⟩)
  ·rcases OS.mp hx with e|e
   ·rw [e];exact .inl (h8 h a)
   ·rw [OK.mp e];exact .inr (h8 h b)
  ·rcases h2 with h2|h2
   ·rw [fG h hC h2];exact .inl h3
   ·rw [fG h hC h2];exact .inr h3
 ·rintro(hx|hx)
  ·rcases cH h a with⟨A,hA,h1,h2⟩|⟨_,h2⟩
   ·rw [h2] at hx;exact .inr ⟨A,hA,.inl h1,hx⟩
   ·rw [h2] at hx;exact .inl (by rw [OK.mp hx];simp)
  ·rcases cH h b with⟨A,hA,h1,h2⟩|⟨_,h2⟩
   ·rw [h2] at hx;exact .inr ⟨A,hA,.inr h1,hx⟩
   ·rw [h2] at hx;exact .inl (by rw [OK.mp hx];simp)
theorem qk {cl:List (List α)} (h:jO cl) (a b x:α):cls (merged cl a b) x=if x∈cls cl a\/x∈cls cl b then (go a b cl ([a,b],[])).1 else cls cl x:=by
 have hd:=iK h a b;by_cases hx:x∈cls cl a\/x∈cls cl b
 ·rw [if_pos hx]
  refine fG hd ?_ ((jP h a b x).mpr hx);unfold merged;exact OU.mpr (.inr (OK.mpr rfl))
 ·rw [if_neg hx]
  rcases cH h x with⟨A,hA,h1,h2⟩|⟨h1,h2⟩
  ·rw [h2]
   refine fG hd ?_ h1;unfold merged;rw [fF,QE];refine OU.mpr (.inl (Pl.mpr ⟨hA,decide_eq_true fun hab=>hx ?_⟩));rcases hab with z|z
   ·rw [fG h hA z];exact .inl h1
   ·rw [fG h hA z];exact .inr h1
  ·rw [h2]
   refine wc fun A hA An=>?_
   unfold merged at hA;rw [fF,QE] at hA;rcases OU.mp hA with z|z
   ·exact h1 A (Pl.mp z).1 An
   ·rw [OK.mp z,jP h] at An
    exact hx An
noncomputable def mM (great:α->Bool) (cl:List (List α)):Prop:=∃A∈cl,¬ lA great A
theorem qm {cl:List (List α)} (a b:α) (h:mM great cl):mM great (merged cl a b):=by
 obtain⟨A,hA,hw⟩:=h;unfold merged;by_cases hab:a∈A\/b∈A
 ·refine⟨_,OU.mpr (.inr (OK.mpr rfl)),fun hW=>hw fun x hx y hy h1 h2=>?_⟩
  exact hW x ((gg a b cl _ x).mpr (.inr ⟨A,hA,hab,hx⟩)) y ((gg a b cl _ y).mpr (.inr ⟨A,hA,hab,hy⟩)) h1 h2
 ·refine⟨A,OU.mpr (.inl ?_),hw⟩
  rw [fF,QE];exact Pl.mpr ⟨hA,decide_eq_true hab⟩
structure Std (great:α->Bool) (lt:α->α->Bool) (ρ:α->α) (cl:List (List α)):Prop where
 dj:jO cl
 wh:∀A∈cl,lA great A
 rp:∀x,fh great lt (cls cl x) (ρ x)
noncomputable def told (great:α->Bool) (lt:α->α->Bool) (ρ:α->α) (a b x:α):α:=if ρ x=ρ a\/ρ x=ρ b then dF great lt (ρ a) (ρ b) else ρ x
theorem Std.whole {ρ:α->α} {cl:List (List α)} (s:Std great lt ρ cl) (x:α):lA great (cls cl x):=by
 rcases cH s.dj x with⟨A,hA,_,h2⟩|⟨_,h2⟩
 ·rw [h2];exact s.wh A hA
 ·rw [h2]
  intro y hy z hz _ _;rw [OK.mp hy,OK.mp hz]
theorem Std.same (o:Ord lt) {ρ:α->α} {cl:List (List α)} (s:Std great lt ρ cl) {x y:α}:ρ x=ρ y↔x∈cls cl y:=by
 constructor
 ·intro e
  have h1:=(s.rp x).mem;have h2:=(s.rp y).mem
  have e1:=qj s.dj h1;have e2:=qj s.dj h2
  rw [e] at e1;rw [<- e2,e1];exact h8 s.dj x
 ·intro h
  have e:=qj s.dj h;have z:=s.rp x
  rw [e] at z;exact fh.uniq o (fun _=>Vm) (s.whole y) z (s.rp y)
theorem tell (o:Ord lt) {ρ:α->α} {cl:List (List α)} (s:Std great lt ρ cl) (a b:α) :
  (ρ a≠ρ b/\great (ρ a)=false/\great (ρ b)=false->mM great (merged cl a b))/\(¬ (ρ a≠ρ b/\great (ρ a)=false/\great (ρ b)=false)->Std great lt (told great lt ρ a b) (merged cl a b)):=by
 have oq:∀x,x∈(go a b cl ([a,b],[])).1↔x∈cls cl a\/x∈cls cl b:=jP s.dj a b;constructor
 ·rintro⟨hne,h1,h2⟩
  refine⟨(go a b cl ([a,b],[])).1,by unfold merged;exact OU.mpr (.inr (OK.mpr rfl)),fun hw=>hne ?_⟩;exact hw _ ((oq _).mpr (.inl (s.rp a).mem)) _ ((oq _).mpr (.inr (s.rp b).mem)) h1 h2
 ·intro gq
  have M3:lA great (go a b cl ([a,b],[])).1:=by
   intro x hx y hy gx gy;have key:∀{z c:α},z∈cls cl c->great z=false->z=ρ c:=fun {z c} hz gz=>by
    rcases(s.rp c).low with h|⟨h,_⟩
    ·exact s.whole c z hz (ρ c) (s.rp c).mem gz h
    ·rw [h z hz] at gz;cases gz
   have eq:great (ρ a)=false->great (ρ b)=false->ρ a=ρ b:=fun h1 h2=>by
    by_cases e:ρ a=ρ b
    ·exact e
    ·exact absurd ⟨e,h1,h2⟩ gq
   rcases(oq x).mp hx with hx|hx <;> rcases(oq y).mp hy with hy|hy
   ·exact s.whole a x hx y hy gx gy
   ·have e1:=key hx gx
    have e2:=key hy gy;rw [e1,e2];exact eq (e1 ▸ gx) (e2 ▸ gy)
   ·have e1:=key hx gx
    have e2:=key hy gy;rw [e1,e2];exact(eq (e2 ▸ gy) (e1 ▸ gx)).symm
   ·exact s.whole b x hx y hy gx gy
  refine⟨iK s.dj a b,fun A hA=>?_,fun x=>?_⟩
  ·unfold merged at hA
   rw [fF,QE] at hA;rcases OU.mp hA with z|z
   ·exact s.wh A (Pl.mp z).1
   ·rw [OK.mp z];exact M3
  ·rw [qk s.dj]
   unfold told;have F5:(ρ x=ρ a\/ρ x=ρ b)↔(x∈cls cl a\/x∈cls cl b):=or_congr (s.same o) (s.same o)
   by_cases hx:x∈cls cl a\/x∈cls cl b
   ·rw [if_pos hx,if_pos (F5.mpr hx)]
    exact tF o oq (s.rp a) (s.rp b)
   ·rw [if_neg hx,if_neg fun z=>hx (F5.mp z)]
    exact s.rp x
theorem Ja (lt:α->α->Bool) (Jb:∀a,lt a a=false):Std great lt id [] :=
 ⟨SO,(fun A hA=>nomatch hA),fun x=>by
  refine⟨OK.mpr rfl,?_⟩;cases h:great x with
  | false=>exact .inl h
  | true =>
   refine .inr ⟨fun y hy=>?_,fun y hy=>?_⟩
   ·rw [OK.mp hy];exact h
   ·rw [OK.mp hy];exact Jb x⟩
theorem tG (o:Ord lt) {ρ:α->α} {cl:List (List α)} (s:Std great lt ρ cl) (a b x:α):told great lt ρ a b (ρ x)=told great lt ρ a b x:=by
 have e:ρ (ρ x)=ρ x:=(s.same o).mpr (s.rp x).mem;unfold told;rw [e]
end
end Un
namespace Bk
open PySem FZ
abbrev bq:=List (Cs × Cs)
noncomputable def gh (st:bq) (n:Cs):Option Cs:=(st.find? fun p=>decide (p.1=n)).map (·.2)
noncomputable def bJ (st:bq) (n:Cs):Cs:=(gh st n).getD n
noncomputable def fN (a b:Cs):Bool:=decide (a<b)
noncomputable def dM (st:bq) (n:Cs):bq:=if great n=true then (if n∈st.map (·.1) then st else st++[(n,n)]) else st
noncomputable def fj (st:bq) (ns:List Cs):bq:=ns.foldl dM st
noncomputable def iM (p q:Cs) (e:Cs × Cs):Cs × Cs:=(e.1,if e.2=p\/e.2=q then Un.dF great fN p q else e.2)
noncomputable def dG (p q:Cs):Prop:=p≠q/\great p=false/\great q=false
noncomputable instance (p q:Cs):Decidable (dG p q):=by unfold dG;infer_instance
noncomputable def bM (st:bq) (p q:Cs):bq:=if p=q then st else st.map (iM p q)
theorem gj (p q:Cs) (st:bq):(st.map (iM p q)).map (·.1)=st.map (·.1):=by
 rw [Py];rfl
noncomputable def wr (st:bq) (f:Fc):Fc:=⟨f.k,f.as.map (bJ st)⟩
noncomputable def bA:bq->List (Cs × Cs)->Option bq
 | st,[]=>some st
 | st,(a,b)::r=>if dG (bJ (fj st [a,b]) a) (bJ (fj st [a,b]) b) then none else bA (bM (fj st [a,b]) (bJ (fj st [a,b]) a) (bJ (fj st [a,b]) b)) r
noncomputable def lw (M4:List (Cs × Cs)) (st:bq) (l:List Fc):List Fc:=if M4=[] then l else l.map (wr st)
section
theorem qn {α β:Type} {f:α->β} {l:List α} (nd:(l.map f).Nodup) {j k:α} (hj:j∈l) (hk:k∈l) (e:f j=f k):j=k:=by
 induction l with
 | nil=>cases hk
 | cons a r ih =>
  rw [OZ,Qc] at nd;rcases OS.mp hj with z|z <;> rcases OS.mp hk with y|y
  ·rw [y,z]
  ·exact absurd (by rw [<- z,e];exact O9 y) nd.1
  ·exact absurd (by rw [<- y,<- e];exact O9 z) nd.1
  ·exact ih nd.2 z y
end
noncomputable def iA (a:Cs):Prop:=cB a=true/\SJ ⟨#[a.headD 0]⟩=great a
theorem zx {left bp ts:List Fc} (h:∀f,left.count f=bp.count f - ts.count f) {g:Fc} (hg:g∈left):g∈bp:=by
 have z:=h g;have z2:=TR.mpr hg
 exact TR.mp (by omega)
noncomputable def tH (st:bq):Prop:=∀e∈st,iA e.1/\iA e.2
theorem tH.bJ {st:bq} (h:tH st) {a:Cs} (ha:iA a):iA (bJ st a):=by
 unfold Bk.bJ;cases D0:gh st a with
 | none=>exact ha
 | some v =>
  unfold gh at D0;obtain⟨e,h1,h2⟩:=OW.mp D0;rw [<- h2];exact(h e (QN h1)).2
theorem tH.tell {st:bq} (h:tH st) {p q:Cs} (hp:iA p) (hq:iA q):tH (bM st p q):=by
 unfold bM;split
 ·exact h
 ·intro e he
  obtain⟨e',he',rfl⟩:=OT.mp he;refine⟨(h e' he').1,?_⟩;unfold iM;dsimp only;split
  ·unfold Un.dF
   split
   ·exact hp
   ·split
    ·exact hq
    ·rcases Un.wb (lt:=fN) p q with e|e
     ·rw [e];exact hp
     ·rw [e];exact hq
  ·exact(h e' he').2
end Bk
namespace M
open PySem
open Bk (Fc Kd)
noncomputable def kT (k:Kd):T:=.tup [.str k.n,.int k.c,.bl k.l]
noncomputable def cT (st:Bk.bq):T:=.aO (st.map fun p=>(.str p.1,.str p.2))
section
variable {L:Live} {f:Fc} {k:Kd} {p:Cs × Cs} {x y z u w:T} {r:List T}
theorem M5:ix (fT f) (.int 0) L=.ok (.str f.k) L:=rfl
theorem M6:ix (fT f) (.int 1) L=.ok (.tup (f.as.map .str)) L:=rfl
theorem M7:ix (kT k) (.int 0) L=.ok (.str k.n) L:=rfl
theorem M8:ix (kT k) (.int 1) L=.ok (.int k.c) L:=rfl
theorem M9:ix (kT k) (.int 2) L=.ok (.bl k.l) L:=rfl
theorem Na:ix (pT p) (.int 0) L=.ok (.str p.1) L:=rfl
theorem Nb:ix (pT p) (.int 1) L=.ok (.str p.2) L:=rfl
theorem jQ {xs:List T} {i:Nat} {x:T} (h:xs[i]?=some x):ix (.tup xs) (.int i) L=.ok x L:=by
 obtain⟨hi,e⟩:=OY.mp h;simp [ix,vw,place,hi,e,lift]
theorem Jc:ix (.tup (x::r)) (.int 0) L=.ok x L:=jQ (i:=0) rfl
theorem Jd:ix (.tup (x::y::r)) (.int 1) L=.ok y L:=jQ (i:=1) rfl
theorem Je:ix (.tup (x::y::z::r)) (.int 2) L=.ok z L:=jQ (i:=2) rfl
theorem Jf:ix (.tup (x::y::z::u::r)) (.int 3) L=.ok u L:=jQ (i:=3) rfl
theorem Jg:ix (.lst (x::r)) (.int 0) L=.ok x L:=bf (i:=0) rfl
theorem Jh:ix (.lst (x::y::r)) (.int 1) L=.ok y L:=bf (i:=1) rfl
theorem Ji:ix (.lst (x::y::z::r)) (.int 2) L=.ok z L:=bf (i:=2) rfl
theorem Jj:ix (.lst (x::y::z::u::r)) (.int 3) L=.ok u L:=bf (i:=3) rfl
theorem Jk:ix (.lst (x::y::z::u::w::r)) (.int 4) L=.ok w L:=bf (i:=4) rfl
theorem Jl {v:T}:ix (.lst (x::y::z::u::w::v::r)) (.int 5) L=.ok v L:=bf (i:=5) rfl
theorem vf:vw L (fT f)=fT f:=rfl
theorem vk:vw L (kT k)=kT k:=rfl
theorem vp:vw L (pT p)=pT p:=rfl
theorem dq {c:T}:at_ (c::L) L.length=some c:=if_pos rfl
theorem we {c d:T}:at_ (d::c::L) L.length=some c:=by simp [at_]
theorem Jm {c d e:T}:at_ (e::d::c::L) L.length=some c:=by
 unfold at_;rw [if_neg (by simp only [OP];omega)];exact we
theorem tJ {c d:T}:at_ (d::c::L) (L.length+1)=some d:=by simp [at_]
theorem F6 {c d e:T}:at_ (e::d::c::L) (L.length+1)=some d:=by
 unfold at_;rw [if_neg (by simp only [OP];omega)];exact tJ
theorem Jn {c d e:T}:at_ (e::d::c::L) (L.length+2)=some e:=if_pos rfl
theorem wg {c d:T}:put (c::L) L.length d=d::L:=by simp [put]
theorem Jo {c d e:T}:put (d::c::L) L.length e=d::e::L:=by simp [put]
theorem Jp {c d e:T}:put (d::c::L) (L.length+1) e=e::c::L:=by simp [put]
theorem fH {n:Nat}:vw L (.ref n)=(at_ L n).getD .bK:=rfl
theorem de {α:Type} {a b:α}:(some a).getD b=a:=rfl
end
theorem r9 {α:Type} {n:Nat} {g:α->T} (h:∀x,lt n (g x)=true):∀l:List α,iQ n (l.map g)=true
 | []=>rfl
 | x::l=>by rw [OZ,iQ,h x,r9 h l];rfl
theorem fS {n:Nat} (l:List Cs):iQ n (l.map .str)=true:=r9 (fun _=>rfl) l
theorem dP (n:Nat) (f:Fc):lt n (fT f)=true:=by simp [fT,lt,iQ,fS]
theorem F7 (n:Nat) (f:Kd):lt n (kT f)=true:=by simp [kT,lt,iQ]
theorem wi (n:Nat) (f:Cs × Cs):lt n (pT f)=true:=by simp [pT,lt,iQ]
theorem lt_str (n:Nat) (x:Cs):lt n (.str x)=true:=by simp [lt]
theorem lt_int (n:Nat) (x:Int):lt n (.int x)=true:=by simp [lt]
theorem dY {α:Type} {n:Nat} {g:α->T} {l:List α} (h:∀n x,lt n (g x)=true):lt n (.lst (l.map g))=true:=by rw [lt];exact r9 (h n) l
theorem iB {α:Type} {n:Nat} {g:α->T} {l:List α} (h:∀n x,lt n (g x)=true):lt n (.tup (l.map g))=true:=by rw [lt];exact r9 (h n) l
theorem qo (n:Nat):∀st:Bk.bq,lt n (cT st)=true
 | []=>rfl
 | (a,b)::st=>by have:=qo n st;simp only [cT,lt,OZ,DA] at this ⊢;simp [lt,this]
theorem ic {L:Live} {c t:T} (h:lt L.length t=true):fin L t (c::L)=.ok t L:=v9 (Ln:=[c]) h
theorem ow (L:Live):old L L:=fun _ _ e=>.inl e
theorem Ao {L Ln:Live} {c:T} {n:Nat} (ha:at_ (Ln++L) n=some c) (hn:L.length<=n) (h:lt L.length c=true):fin L (.ref n) (Ln++L)=.ok c L:=by
 have e:(Ln++L).drop ((Ln++L).length - L.length)=L:=by rw [OL,Sp,TZ]
 unfold fin;rw [e,if_pos (ow L)];unfold eY;have:¬ lt L.length (.ref n)=true:=by rw [lt];simp;omega
 rw [if_neg this];simp only [ha];unfold eY;rw [if_pos h];rfl
theorem CY {L:Live} {c:T} (h:lt L.length c=true):fin L (.ref L.length) (c::L)=.ok c L:=Ao (Ln:=[c]) dq (OR _) h
theorem CZ {L:Live} {c d:T} (h:lt L.length d=true):fin L (.ref (L.length+1)) (d::c::L)=.ok d L:=Ao (Ln:=[d,c]) tJ (RF _) h
theorem F8 {a b:Cs} {L:Live}:D5 (.str a) (.str b) L=.ok (a == b) L:=rfl
theorem F9 {a b:Int} {L:Live}:D5 (.int a) (.int b) L=.ok (a == b) L:=rfl
theorem Ga {α:Type} {r:R α}:bD (0<=lim) r=r:=if_pos (Pg _)
theorem Gb {α:Type} {r:R α}:bD (0+1<=lim) r=r:=if_pos (by decide)
theorem C0 {α:Type} {r:R α}:bD (1<=lim) r=r:=if_pos (by decide)
theorem Ge {α:Type} {r:R α}:bD (2<=lim) r=r:=if_pos (by decide)
theorem Gf {α:Type} {r:R α}:bD (3<=lim) r=r:=if_pos (by decide)
theorem Gg {α:Type} {r:R α}:bD (4<=lim) r=r:=if_pos (by decide)
theorem Gh {α:Type} {r:R α}:bD (5<=lim) r=r:=if_pos (by decide)
theorem Gi {α:Type} {r:R α}:bD (6<=lim) r=r:=if_pos (by decide)
theorem Jq (n:Nat):(n:Int)+1=((n+1:Nat):Int):=rfl
theorem Jr (n:Nat):(n:Int)+2=((n+2:Nat):Int):=rfl
theorem Js:S ")"=[41]:=rfl
theorem Jt:S "("=[40]:=rfl
theorem Ju:S ","=[44]:=rfl
theorem Jv:S "="=[61]:=rfl
theorem Jw:S ""=[]:=rfl
theorem Gj {α:Type} {r:R α} [Decidable True]:bD True r=r:=if_pos trivial
theorem Jy {fz:Bool} {i j:Int} {L:Live}:aw fz .Add (.int i) (.int j) L=.ok (.int (i+j)) L:=rfl
theorem Jz {fz:Bool} {i j:Int} {L:Live}:aw fz .Sub (.int i) (.int j) L=.ok (.int (i - j)) L:=rfl
theorem JA {fz:Bool} {i j:Int} {L:Live}:aw fz .Mult (.int i) (.int j) L=bD (qF i j) (.ok (.int (i * j)) L):=rfl
theorem JB {fz:Bool} {i j:Int} {L:Live}:aw fz .FloorDiv (.int i) (.int j) L=bD (t8 j) (.ok (.int (i / j)) L):=rfl
theorem JC {fz:Bool} {i j:Int} {L:Live}:aw fz .Mod (.int i) (.int j) L=bD (0<j) (.ok (.int (i % j)) L):=rfl
theorem JD {fz:Bool} {a b:Cs} {L:Live}:aw fz .Add (.str a) (.str b) L=bD (a.length+b.length<=lim) (.ok (.str (a++b)) L):=rfl
theorem JE {fz:Bool} {a b:List T} {L:Live}:aw fz .Add (.lst a) (.lst b) L=eE fz (a++b) L:=rfl
theorem Gk (a b:SE) (φ:Fr) (L:Live) {i j:Int} {L1 L2:Live} (ha:a φ L=.ok (.int i) L1) (hb:b φ L1=.ok (.int j) L2) (hi:tS i/\tS j):ni a b φ L=.ok (upTo i (j - i).toNat,fun _=>True) L2:=by
 unfold ni;rw [ha,aZ,hb,aZ];exact if_pos hi
theorem Gm {n:Nat} (h:n<=1000000):tS n:=by unfold tS;constructor <;> omega
theorem JF {y:T} {xs:List T} {L:Live}:ix (.ref L.length) y (.lst xs::L)=ix (.lst xs) y (.lst xs::L):=by unfold ix;simp only [fH,dq,de];rfl
theorem Gn {fz:Bool} {a b:Option Int} {xs:List T} {L:Live}:oX fz (.ref L.length) a b (.lst xs::L)=oX fz (.lst xs) a b (.lst xs::L):=by unfold oX;simp only [fH,dq,de];rfl
theorem JG {fz:Bool} {a b:Option Int} {xs:List T} {c:T} {L:Live}:oX fz (.ref (L.length+1)) a b (.lst xs::c::L)=oX fz (.lst xs) a b (.lst xs::c::L):=Gn (L:=c::L)
theorem JH {c d e f:T} {L:Live}:put (e::d::c::L) (L.length+2) f=f::d::c::L:=wg (L:=d::c::L)
theorem aI {α:Type} {c:Prop} {i:Decidable c} {r:R α} (h:c):@bD α c i r=r:=if_pos h
theorem Gp {a b:Cs}:(a != b) = !(a == b):=rfl
theorem JI {ch:Nat} {b:Cs} {L:Live}:mY (.str [ch]) (.str b) L=.ok (decide (ch∈b)) L:=rfl
theorem any_eq {α:Type} [DecidableEq α] {g:α->T} (hg:∀a b,eqT (g a) (g b)=decide (a=b)) (x:α):∀ys:List α,((ys.map g).any fun y=>eqT y (g x))=decide (x∈ys)
 | []=>by simp
 | y::ys=>by
  rw [OZ,List.any_cons,any_eq hg x ys,hg,<- Bool.decide_or];exact decide_eq_decide.mpr ⟨fun h=>h.elim (fun e=>by rw [e];exact OI) (OG _),fun h=>(OS.mp h).imp Eq.symm id⟩
theorem b8 {α:Type} {g:α->T} {n:Nat} (h:∀a,dat n (g a)=true) (l:List α):(l.map g).all (dat n)=true:=by simp [h]
theorem Ap (a b:Cs):eqT (.str a) (.str b)=decide (a=b):=by
 show(a == b)=_;by_cases h:a=b <;> simp [h]
theorem Aq {α:Type} [DecidableEq α] {f:T->T->Bool} {g:α->T} (h:∀a b,f (g a) (g b)=decide (a=b)):∀a b:List α,iO f (a.map g) (b.map g)=decide (a=b)
 | [],[]=>by simp [iO]
 | [],_::_=>by simp [iO]
 | _::_,[]=>by simp [iO]
 | x::a,y::b=>by
  rw [OZ,OZ,iO,h,Aq h a b];by_cases h1:x=y <;> by_cases h2:a=b <;> simp [h1,h2]
theorem Ar (n:Nat) (a b:Cs):mX (n+1) (.str a) (.str b)=decide (a=b):=by
 show(a == b)=_;by_cases h:a=b <;> simp [h]
theorem lB (a b:Fc):eqT (fT a) (fT b)=decide (a=b):=by
 obtain⟨k,as⟩:=a;obtain⟨k',as'⟩:=b;show(mX 7 (.str k) (.str k') && (iO (mX 6) (as.map .str) (as'.map .str) && true))=_
 rw [Ar,Aq (Ar 5)];by_cases h1:k=k' <;> by_cases h2:as=as' <;> simp [h1,h2]
theorem lC (n:Nat) (a:Cs):dat (n+1) (.str a)=true:=rfl
theorem iN (a:Fc):dat 8 (fT a)=true:=by
 show(dat 7 (.str a.k) && ((a.as.map .str).all (dat 6) && true))=true;rw [lC,b8 (lC 5)];rfl
theorem Gq {x:Cs} {ys:List Cs} {L:Live}:mY (.str x) (.lst (ys.map .str)) L=.ok (decide (x∈ys)) L:=by
 show bD _ _=_;rw [iJ ⟨rfl,b8 (lC 7) ys⟩,any_eq Ap];exact congrArg (R.ok · L) (decide_eq_decide.mpr Vm)
theorem Gr {x:Cs} {ys:List Cs} {L:Live}:mY (.str x) (.tup (ys.map .str)) L=.ok (decide (x∈ys)) L:=by
 show bD _ _=_;rw [iJ ⟨rfl,b8 (lC 7) ys⟩,any_eq Ap];exact congrArg (R.ok · L) (decide_eq_decide.mpr Vm)
theorem JJ {x:Cs} {t:T} {ys:List Cs} {L:Live} (h:vw L t=.lst (ys.map .str)):mY (.str x) t L=.ok (decide (x∈ys)) L:=by
 have:=Gq (x:=x) (ys:=ys) (L:=L);unfold mY at this ⊢;rw [h];exact this
theorem Gs {x:Fc} {t:T} {ys:List Fc} {L:Live} (h:vw L t=.lst (ys.map fT)):mY (fT x) t L=.ok (decide (x∈ys)) L:=by
 have:mY (fT x) (.lst (ys.map fT)) L=.ok (decide (x∈ys)) L:=by
  show bD _ _=_;rw [iJ ⟨iN x,b8 iN ys⟩,any_eq lB]
 unfold mY at this ⊢;rw [h];exact this
theorem Gu {x:Fc} {ys:List Fc} {L:Live}:mY (fT x) (.lst (ys.map fT)) L=.ok (decide (x∈ys)) L:=by
 show bD _ _=_;rw [iJ ⟨iN x,b8 iN ys⟩,any_eq lB]
theorem Gw {x:Fc} {ys:List Fc} {L:Live}:mY (fT x) (.tup (ys.map fT)) L=.ok (decide (x∈ys)) L:=by
 show bD _ _=_;rw [iJ ⟨iN x,b8 iN ys⟩,any_eq lB]
section
variable {β:Type} {s:SI} {aM:List (Option Nat)} {i:Nat} {ts:ST} {m:SE} {φ:Fr} {L:Live} {k:Live->Prop} {r:R T} {fz:Bool}
theorem dZ (hc:comp fz s aM (.one i) ts m φ L=r) (xs:List β) (enc:β->T) (p:β->Bool) (f:β->T) (hs:s φ L=.ok (xs.map enc,k) L) (hk:k L) (hl:xs.length<=lim)
  (ht:∀b∈xs,ts ((inner aM φ).set i (some (enc b))) L=.ok (p b) L) (hm:∀b∈xs,p b=true->m ((inner aM φ).set i (some (enc b))) L=.ok (f b) L):r=mk fz (.lst ((xs.filter p).map f)) L:=by
 subst hc;have key:∀(ys:List β) (acc:List T),(∀b∈ys,b∈xs)->acc.length+ys.length<=lim->compLoop k (.one i) ts m (inner aM φ) (ys.map enc) acc L=.ok (acc++(ys.filter p).map f) L:=by
  intro ys;induction ys with
  | nil=>intro acc _ _;simp [compLoop,hk]
  | cons b ys ih =>
   intro acc hb hz;have hx:=hb b OI
   simp only [OP] at hz;rw [OZ,compLoop,if_pos ⟨hk,by omega⟩];simp only [Tg.set,ht b hx,aZ];cases hp:p b with
   | true=>rw [if_pos rfl,hm b hx hp,aZ,ih _ (fun c hc=>hb c (OG _ hc)) (by simp;omega)];simp [hp]
   | false=>rw [if_neg (by simp),ih _ (fun c hc=>hb c (OG _ hc)) (by omega)];simp [hp]
 rw [comp,hs,aZ,key xs [] (fun _ h=>h) (by simpa using hl),aZ];rfl
theorem bF (hc:comp fz s aM (.one i) yes m φ L=r) (xs:List β) (enc:β->T) (f:β->T) (hs:s φ L=.ok (xs.map enc,k) L) (hk:k L) (hl:xs.length<=lim)
  (hm:∀b∈xs,m ((inner aM φ).set i (some (enc b))) L=.ok (f b) L):r=mk fz (.lst (xs.map f)) L:=by
 have:=dZ hc xs enc (fun _=>true) f hs hk hl (fun _ _=>rfl) fun b hb _=>hm b hb
 rw [this,List.filter_eq_self.mpr (fun _ _=>rfl)]
end
noncomputable def xD (Q:Fr->Live->Prop) (R:T->Live->Prop) (B:Fr->Live->Prop):O->Prop
 | .nx φ L=>Q φ L
 | .ct φ L=>Q φ L
 | .rt t L=>R t L
 | .bk φ L=>B φ L
 | .bad=>False
theorem oy {Q R B φ L}:xD Q R B (.nx φ L)=Q φ L:=rfl
theorem Gx {Q R B φ L}:xD Q R B (.ct φ L)=Q φ L:=rfl
theorem Gy {Q R B t L}:xD Q R B (.rt t L)=R t L:=rfl
theorem Gz {Q R B φ L}:xD Q R B (.bk φ L)=B φ L:=rfl
section
variable {β:Type} {k:Live->Prop} {tg:Tg} {b:SS} {φ:Fr} {L:Live} {o:O} {ts:List T}
theorem dH (ho:forL k tg b ts φ L=o) (xs:List β) (enc:β->T) (J:List β->Fr->Live->Prop) (P:O->Prop) (hx:ts=xs.map enc) (hJ:J xs φ L)
  (step:∀(J':List β->Fr->Live->Prop) (P':O->Prop),(∀{r φ L},J' r φ L=J r φ L)->(∀{o},P' o=P o)->∀x r φ L,J (x::r) φ L->k L/\∃φ1,tg.set (enc x) φ=some φ1/\xD (J' r) (fun t L=>P' (.rt t L)) (fun φ L=>P' (.nx φ L)) (b φ1 L))
  (done:∀φ L,J [] φ L->k L/\P (.nx φ L)):P o:=by
 subst ho hx
 replace step:=step J P rfl rfl
 induction xs generalizing φ L with
 | nil=>obtain⟨h1,h2⟩:=done φ L hJ;rw [Qp,forL,if_pos h1];exact h2
 | cons x r ih =>
  obtain⟨h1,φ1,h2,h3⟩:=step x r φ L hJ;rw [OZ,forL,if_pos h1];simp only [h2];cases e:b φ1 L with
  | nx φ2 L2=>rw [e] at h3;exact ih h3
  | ct φ2 L2=>rw [e] at h3;exact ih h3
  | rt t L2=>rw [e] at h3;exact h3
  | bk φ2 L2=>rw [e] at h3;exact h3
  | bad=>rw [e] at h3;exact h3.elim
theorem mO {α:Type} {i:Nat} (xs:List α) (enc:α->T) (F:Option T->Fr) {z:Option T} (ho:forL k (.one i) b (xs.map enc) (F z) L=o) (hk:k L) (hF:∀z x,(F z).set i (some x)=F (some x)) (hb:∀x∈xs,b (F (some (enc x))) L=.nx (F (some (enc x))) L):∃z,o=.nx (F z) L :=
 dH ho xs enc (fun r φ L'=>(∀x∈r,x∈xs)/\L'=L/\∃z,φ=F z) (fun o=>∃z,o=.nx (F z) L) rfl ⟨fun _ h=>h,rfl,z,rfl⟩ (fun _ _ eJ eP x r φ L' hh=>by
  obtain⟨h,rfl,z,rfl⟩:=hh;refine⟨hk,_,rfl,?_⟩;rw [hF,hb x (h x OI),oy,eJ];exact⟨fun y hy=>h y (OG _ hy),rfl,_,rfl⟩) fun φ L' hh=>by
  obtain⟨_,rfl,z,rfl⟩:=hh;exact⟨hk,z,rfl⟩
theorem se {α β γ:Type} {i:Nat} (xs:List α) (enc:α->T) (E:β->T) (g:β->α->β) (N:List α->β->Prop) (F:Option T->γ->Fr) {z:Option T} {w:γ} {s:β} (ho:forL k (.one i) b (xs.map enc) (F z w) (E s::L)=o) (hk:∀s,k (E s::L)) (hF:∀z w x,(F z w).set i (some x)=F (some x) w) (hN:N xs s)
  (hb:∀x r s w,N (x::r) s->N r (g s x)/\∃w',b (F (some (enc x)) w) (E s::L)=.nx (F (some (enc x)) w') (E (g s x)::L)):∃z w,o=.nx (F z w) (E (xs.foldl g s)::L) :=
 dH ho xs enc (fun r φ L'=>∃z w s',N r s'/\r.foldl g s'=xs.foldl g s/\φ=F z w/\L'=E s'::L) (fun o=>∃z w,o=.nx (F z w) (E (xs.foldl g s)::L)) rfl ⟨z,w,s,hN,rfl,rfl,rfl⟩ (fun _ _ eJ eP x r φ L' hh=>by
  obtain⟨z,w,s',h,e,rfl,rfl⟩:=hh;refine⟨hk _,_,rfl,?_⟩;obtain⟨h1,w',h2⟩:=hb x r s' w h;rw [hF,h2,oy,eJ];exact⟨_,w',_,h1,e,rfl,rfl⟩) fun φ L' hh=>by
  obtain⟨z,w,s',_,e,rfl,rfl⟩:=hh;exact⟨hk _,z,w,by rw [<- e];rfl⟩
end
theorem GA (n:Nat) (k:Int) (φ:Fr) (L:Live):vi n k φ L=(lift ((φ[n]?).join) L).bind fun x L1=>ix x (.int k) L1:=rfl
theorem ite_tt {α:Type} {a b:α}:(if true=true then a else b)=a:=rfl
theorem ite_ff {α:Type} {a b:α}:(if false=true then a else b)=b:=rfl
end M
section
open M
set_option hygiene false in
local macro_rules|`(tactic| simp_arith $[$d:discharger]? [$ls,*])=>`(tactic| simp $[$d:discharger]? only [↓ite_tt,↓ite_ff,GA,lq,v7,jK,DY,M0,FN,I8,FO,CM,FP,vY,FQ,FT,FU,CN,I9,Ak,r7,FV,vZ,FW,FX,FY,CO,CP,v5,zo,zq,CQ,CS,qg,qh,CT,CU,v8,xG,Rb,eE,_root_.M.mk,Jy,Jz,JA,JB,t8,JC,JD,JE,_root_.M.cmp,D6,Hb,Hc,Hd,JI,Gq,Gr,Gu,Gw,_root_.M.vw,He,aZ,of_ok,mL,zi,cF,CJ,Tg.set,_root_.M.sets,cW,CK,zj,zk,zm,CL,ag,
 OP,Pz,OZ,Qp,S4,QE,Pd,RE,Uu,Rc,List.set_cons_zero,List.set_cons_succ,if_true,reduceIte,OQ,Uv,Uw,UZ,M5,M6,M7,M8,M9,Na,Nb,Jc,Jd,Je,Jf,Jg,Jh,Ji,Jj,Jk,Jl,vf,vk,vp,dq,we,Jm,tJ,F6,Jn,wg,Jo,Jp,JH,JF,Gn,JG,fH,de,oy,Gx,Gy,Gz,_root_.M.inner,aW,fQ,cZ,eR,xH,_root_.M.items,gA,Option.map_some,Rb,RB,SU,Lm9,F8,F9,Ga,Gb,C0,Ge,Gf,Gg,Gh,Gi,Jq,Jr,Js,Jt,Ju,Jv,Jw,Gp,List.cons_beq_cons,Nat.reduceBEq,Bool.true_and,Vs,Bool.false_and,SR,beq_self_eq_true,Gj,Int.reduceLT,Int.reduceLE,Int.reduceNeg,Int.reducePow,Int.reduceToNat,qF,and_self,or_true,true_or,$ls,*])
local macro_rules|`(tactic| simp_arith)=>`(tactic| simp_arith [lq])
local macro_rules|`(tactic| simp_all_arith [$ls,*])=>`(tactic| simp_arith (disch:=first|assumption|(simp only [OL,OP,Pz,Lm9,Qd,PN,lim] <;> omega)|omega) [aI,$ls,*])
local macro_rules|`(tactic| simp_all_arith)=>`(tactic| simp_all_arith [lq])
namespace D1
open PySem M
open FZ (jM cB zw qi iy CV)
open Bk (Fc Kd great eX iA bJ gh wr fj dM bM iM dG bq bA tH aK lr lw fN ax cS aR jN)
open Un (dF told mn)
def mP:T:=.str (S "ABCDEFGHIJKLMNOPQRSTUVWXYZ")
def ay:T:=.tup [.tup [],.tup [],.tup [],.bl true]
def bB:Fn:=run 2 4 (af [asg (.one 2) (aq (dC false) [v 0]),cw (src (v 1)) (.one 3) (af [iff (mw [tv (aY (aH) (vi 3 0) []),tv (b2 (v 3) (v 2) (cmp .NotIn))]) (af [ja (aY (aW) (v 2) [v 3])]) (af [])]),ret (v 2)])
def du:Fn:=run 2 3 (af [cw (src (v 0)) (.one 2) (af [iff (tv (b2 (vi 2 0) (vi 1 0) (cmp .Eq))) (af [ret (vi 2 2)]) (af [])]),ret (c (.bl false))])
def cK:Fn:=run 2 5 (af [asg (.one 2) (lst true [vi 1 0,vi 1 1]),asg (.one 3) (lst false []),cw (src (v 0)) (.one 4) (af [iff (sZ [tv (b2 (vi 1 0) (v 4) (cmp .In)),tv (b2 (vi 1 1) (v 4) (cmp .In))]) (af [asg (.one 2) (b2 (v 2) (comp true (src (v 4)) [none,none,some 2] (.one 1) (tv (b2 (v 1) (v 2) (cmp .NotIn))) (v 1)) (aw true .Add))]) (af [ja (aY (aW) (v 3) [v 4])])]),ret (b2 (v 3) (lst true [v 2]) (aw true .Add))])
def cL:Fn:=run 3 9 (af [asg (.one 3) (aq (dC false) [vi 1 0]),cw (src (vi 2 0)) (.one 4) (af [ja (aY (jw) (v 3) [v 4])]),asg (.one 5) (aq (dC false) [vi 1 1]),asg (.one 6) (vi 1 3),cw (src (vi 2 1)) (.one 4) (af [asg (.one 6) (aq bB [v 6,vi 4 1]),iff (tv (aq du [v 0,v 4])) (af [ja (aY (aW) (v 5) [v 4])]) (af [ja (aY (aW) (v 3) [v 4])])]),asg (.one 7) (vi 1 2),cw (src (vi 2 2)) (.one 8) (af [asg (.one 6) (aq bB [v 6,v 8]),asg (.one 7) (aq cK [v 7,v 8])]),ret (tup [v 3,v 5,v 7,v 6])])
def ai:Fn:=run 2 2 (af [iff (tv (b2 (v 1) (aq cW [v 0]) (cmp .Lt))) (af [ret (b2 (v 0) (v 1) ix)]) (af []),ret (c (.int 0))])
def au:Fn:=run 2 3 (af [asg (.one 2) (b2 (lst true [c (.int 48271),c (.int 69621),c (.int 16807),c (.int 40692),c (.int 30269),c (.int 62089),c (.int 45991)]) (b2 (v 1) (c (.int 7)) (aw true .Mod)) ix),ret (b2 (b2 (b2 (b2 (v 0) (c (.int 1000003)) (aw true .Mod)) (b2 (c (.int 31)) (v 1) (aw true .Mult)) (aw true .Add)) (v 2) (aw true .Mult)) (c (.int 999983)) (aw true .Mod))])
def cU:Fn:=run 3 7 (af [asg (.one 3) (aq au [v 2,c (.int 2)]),asg (.one 4) (b2 (v 0) (b2 (v 3) (aq cW [v 0]) (aw true .Mod)) ix),asg (.one 3) (b2 (v 3) (c (.int 5)) (aw true .FloorDiv)),asg (.one 5) (lst false []),cw (ni (c (.int 0)) (vi 4 1)) (.one 6) (af [ja (aY (aW) (v 5) [b2 (v 1) (b2 (v 3) (aq cW [v 1]) (aw true .Mod)) ix]),asg (.one 3) (b2 (b2 (v 3) (aq cW [v 1]) (aw true .FloorDiv)) (b2 (c (.int 977)) (v 6) (aw true .Mult)) (aw true .Add))]),ret (tup [vi 4 0,aq gA [v 5]])])
def cM:Fn:=run 5 11 (af [asg (.one 5) (aq au [v 4,c (.int 6)]),asg (.one 6) (lst true []),asg (.one 7) (lst false []),asg (.one 8) (lst true []),iff (mw [tv (b2 (b2 (v 5) (c (.int 8)) (aw true .Mod)) (c (.int 5)) (cmp .Gt)),tv (b2 (aq cW [vi 3 0]) (c (.int 0)) (cmp .Gt))]) (af [asg (.one 9) (b2 (b2 (v 5) (c (.int 8)) (aw true .FloorDiv)) (aq cW [vi 3 0]) (aw true .Mod)),asg (.one 6) (lst true [b2 (vi 3 0) (v 9) ix])]) (af []),iff (sZ [tv (b2 (b2 (v 5) (c (.int 8)) (aw true .Mod)) (c (.int 4)) (cmp .Lt)),tv (b2 (b2 (v 5) (c (.int 8)) (aw true .Mod)) (c (.int 7)) (cmp .Eq))]) (af [asg (.one 7) (lst false [aq cU [v 0,v 1,v 4]])]) (af []),iff (tv (b2 (b2 (v 5) (c (.int 8)) (aw true .Mod)) (c (.int 2)) (cmp .Lt))) (af [ja (aY (aW) (v 7) [aq cU [v 0,v 1,v 5]])]) (af []),iff (sZ [tv (b2 (b2 (v 5) (c (.int 8)) (aw true .Mod)) (c (.int 4)) (cmp .Eq)),tv (b2 (b2 (v 5) (c (.int 8)) (aw true .Mod)) (c (.int 5)) (cmp .Eq)),tv (b2 (b2 (v 5) (c (.int 8)) (aw true .Mod)) (c (.int 7)) (cmp .Eq))]) (af [asg (.one 10) (sl true (v 1) none (some (b2 (c (.int 5)) (v 2) (aw true .Add)))),asg (.one 8) (lst true [tup [b2 (v 1) (b2 (b2 (v 5) (c (.int 8)) (aw true .FloorDiv)) (c (.int 5)) (aw true .Mod)) ix,b2 (v 10) (b2 (b2 (v 5) (c (.int 40)) (aw true .FloorDiv)) (aq cW [v 10]) (aw true .Mod)) ix]]),iff (tv (b2 (b2 (b2 (v 5) (c (.int 5)) (aw true .FloorDiv)) (c (.int 2)) (aw true .Mod)) (c (.int 0)) (cmp .Eq))) (af [asg (.one 8) (lst true [tup [b2 (vi 8 0) (c (.int 1)) ix,b2 (vi 8 0) (c (.int 0)) ix]])]) (af [])]) (af []),ret (tup [v 6,v 7,v 8])])
def aD:Fn:=run 2 4 (af [cw (src (v 0)) (.one 2) (af [iff (tv (b2 (v 1) (v 2) (cmp .In))) (af [asg (.one 3) (comp true (src (v 2)) [none,none] (.one 1) (eG (tv (aY (aH) (vi 1 0) []))) (v 1)),iff (tv (b2 (aq cW [v 3]) (c (.int 0)) (cmp .Gt))) (af [ret (vi 3 0)]) (af []),ret (aq iE [v 2])]) (af [])]),ret (v 1)])
def cV:Fn:=run 1 2 (af [cw (src (v 0)) (.one 1) (af [iff (tv (b2 (aq kJ [comp true (src (v 1)) [none,none] (.one 1) (eG (tv (aY (aH) (vi 1 0) []))) (v 1)]) (c (.int 1)) (cmp .Gt))) (af [ret (c (.bl true))]) (af [])]),ret (c (.bl false))])
def bo:Fn:=run 2 2 (af [iff (eG (tv (aY (aH) (vi 1 0) []))) (af [ret (lst true [v 1])]) (af []),iff (sZ [tv (aq cV [vi 0 2]),tv (b2 (v 1) (vi 0 3) (cmp .NotIn))]) (af [ret (lst true [])]) (af []),ret (lst true [aq aD [vi 0 2,v 1]])])
def cf:Fn:=run 2 2 (af [iff (sZ [eG (tv (aq AK [v 0,c (.cl (.type "tuple"))])),tv (b2 (aq cW [v 0]) (c (.int 4)) (cmp .NotEq)),eG (tv (aq AK [vi 0 3,c (.cl (.type "bool"))]))]) (af [ret (c (.bl false))]) (af []),ret (b2 (v 0) (v 1) (cmp .Eq))])
def aN:Fn:=run 3 9 (af [asg (.one 3) (c (.str (S "abcdefghijklmnopqrstuvwxyz0123456789ABCDEFGHIJKLMNOPQRSTUVWXYZ"))),asg (.one 4) (aq au [v 0,c (.int 0)]),asg (.one 5) (b2 (b2 (v 4) (c (.int 5)) (aw true .FloorDiv)) (aq cW [v 2]) (aw true .Mod)),asg (.one 6) (aY (cZ) (c (.str (S ""))) [comp true (ni (c (.int 0)) (c (.int 11))) [none,none,some 4,some 3] (.one 1) yes (b2 (v 3) (b2 (b2 (b2 (v 2) (b2 (v 1) (c (.int 1)) (aw true .Add)) (aw true .FloorDiv)) (b2 (v 1) (v 1) (aw true .Mult)) (aw true .Add)) (c (.int 62)) (aw true .Mod)) ix)]),iff (tv (b2 (b2 (v 4) (c (.int 3)) (aw true .Mod)) (c (.int 0)) (cmp .Eq))) (af [ret (comp true (ni (c (.int 0)) (v 1)) [none,none,some 2,some 5,some 6] (.one 1) yes (b2 (b2 (v 2) (v 3) ix) (sl true (v 4) none (some (v 1))) (aw true .Add)))]) (af []),iff (tv (b2 (b2 (v 4) (c (.int 3)) (aw true .Mod)) (c (.int 1)) (cmp .Eq))) (af [asg (.one 7) (b2 (b2 (v 4) (c (.int 3)) (aw true .FloorDiv)) (c (.int 12)) (aw true .Mod)),ret (comp true (ni (c (.int 0)) (v 1)) [none,none,some 2,some 7,some 5,some 6] (.one 1) yes (b2 (b2 (v 2) (b2 (b2 (v 4) (v 1) (aw true .Add)) (aq cW [v 2]) (aw true .Mod)) ix) (sl true (v 5) none (some (v 3))) (aw true .Add)))]) (af []),asg (.one 7) (b2 (b2 (v 4) (c (.int 3)) (aw true .FloorDiv)) (c (.int 11)) (aw true .Mod)),asg (.one 8) (b2 (b2 (v 4) (c (.int 33)) (aw true .FloorDiv)) (b2 (v 7) (c (.int 1)) (aw true .Add)) (aw true .Mod)),asg (.one 3) (comp true (ni (c (.int 0)) (v 1)) [none,none,some 4,some 3] (.one 1) yes (b2 (v 3) (b2 (b2 (b2 (v 2) (c (.int 7)) (aw true .FloorDiv)) (v 1) (aw true .Add)) (c (.int 62)) (aw true .Mod)) ix)),ret (comp true (src (v 3)) [none,none,some 8,some 2,some 7,some 5,some 6] (.one 1) yes (b2 (b2 (b2 (b2 (v 3) (v 5) ix) (sl true (v 6) none (some (v 2))) (aw true .Add)) (v 1) (aw true .Add)) (sl true (v 6) (some (v 2)) (some (v 4))) (aw true .Add)))])
def cN:Fn:=run 2 2 (af [ret (aq aN [v 0,v 1,c (.str (S "abcdefghijklmnopqrstuvwxyz"))])])
def dw:Fn:=run 2 6 (af [asg (.one 2) (aq cN [v 0,c (.int 4)]),asg (.one 3) (aq au [v 0,c (.int 1)]),asg (.one 4) (lst true [lst true [c (.bl false),c (.bl true),c (.bl false),c (.bl true)],lst true [c (.bl true),c (.bl false),c (.bl false),c (.bl true)]]),asg (.one 4) (b2 (v 4) (lst true [lst true [c (.bl false),c (.bl false),c (.bl true),c (.bl true)],lst true [c (.bl true),c (.bl false),c (.bl true),c (.bl false)]]) (aw true .Add)),asg (.one 5) (b2 (v 4) (b2 (v 3) (c (.int 4)) (aw true .Mod)) ix),ret (comp true (ni (c (.int 0)) (c (.int 4))) [none,none,some 5,some 3,some 1,some 2] (.one 1) yes (tup [b2 (v 5) (v 1) ix,b2 (v 4) (b2 (b2 (v 3) (b2 (b2 (c (.int 3)) (v 1) (aw true .Mult)) (c (.int 5)) (aw true .Add)) (aw true .FloorDiv)) (aq cW [v 4]) (aw true .Mod)) ix,b2 (v 2) (v 1) ix]))])
def dz:Fn:=run 2 2 (af [ret (aq aN [v 0,v 1,c (.str (S "ABCDEFGHIJKLMNOPQRSTUVWXYZ"))])])
def bg:Fn:=run 4 7 (af [asg (.one 4) (lst false []),cw (ni (c (.int 0)) (aq cW [vi 2 1])) (.one 5) (af [asg (.one 6) (comp true (src (v 1)) [none,none,some 0,some 2,some 5] (.one 1) (tv (b2 (aq aD [v 2,v 1]) (aq aD [v 2,b2 (vi 3 1) (v 4) ix]) (cmp .Eq))) (v 1)),ja (aY (aW) (v 4) [b2 (b2 (v 6) (lst true [b2 (vi 2 1) (v 5) ix]) (aw true .Add)) (b2 (b2 (v 3) (b2 (v 5) (c (.int 1)) (aw true .Add)) (aw true .FloorDiv)) (b2 (aq cW [v 6]) (c (.int 1)) (aw true .Add)) (aw true .Mod)) ix])]),ret (tup [vi 2 0,aq gA [v 4]])])
def dI:Fn:=run 2 2 (af [ret (tup [vi 1 0,aq gA [comp true (src (vi 1 1)) [none,none,some 0] (.one 1) yes (aq aD [v 2,v 1])]])])
def dQ:Fn:=run 4 9 (af [iff (tv (aq cV [v 2])) (af [ret (tup [tup [],tup [],tup [],c (.bl true)])]) (af []),asg (.one 4) (lst false []),cw (src (v 1)) (.one 5) (af [asg (.one 6) (aq dI [v 2,v 5]),iff (tv (b2 (v 6) (v 4) (cmp .NotIn))) (af [ja (aY (aW) (v 4) [v 6])]) (af [])]),asg (.one 7) (comp true (src (v 3)) [none,none,some 2] (.one 1) yes (tup [v 1,aq aD [v 2,v 1]])),asg (.one 8) (aq (dO true) [comp true (src (v 0)) [none,none,some 2] (.one 1) yes (aq dI [v 2,v 1])]),ret (tup [aq gA [v 8],aq gA [aq (dO true) [v 4]],aq gA [aq (dO true) [v 7]],c (.bl false)])])
def aX:Fn:=run 1 1 (af [ret (b2 (vi 0 0) (c mP) (cmp .In))])
def bh:Fn:=run 2 3 (af [iff (eG (tv (aq aX [v 1]))) (af [ret (v 1)]) (af []),cw (src (vi 0 2)) (.one 2) (af [iff (tv (b2 (vi 2 0) (v 1) (cmp .Eq))) (af [ret (vi 2 1)]) (af [])]),j9])
def dA:Fn:=run 2 2 (af [ret (aq aN [v 0,v 1,c (.str (S "abcdefghijklmnopqrstuvwxyz0123456789"))])])
def a8:Fn:=run 1 1 (af [iff (tv (b2 (aq cW [vi 0 1]) (c (.int 0)) (cmp .Eq))) (af [ret (vi 0 0)]) (af []),ret (b2 (b2 (b2 (vi 0 0) (c (.str (S "("))) (aw true .Add)) (aY (cZ) (c (.str (S ","))) [vi 0 1]) (aw true .Add)) (c (.str (S ")"))) (aw true .Add))])
def aS:Fn:=run 1 2 (af [iff (tv (vi 0 3)) (af [ret (c (.str (S "broken")))]) (af []),asg (.one 1) (lst false [aY (cZ) (c (.str (S ", "))) [comp true (src (vi 0 0)) [none,none] (.one 1) yes (aq a8 [v 1])]]),ja (aY (aW) (v 1) [aY (cZ) (c (.str (S ", "))) [comp true (src (vi 0 1)) [none,none] (.one 1) yes (aq a8 [v 1])]]),ja (aY (aW) (v 1) [aY (cZ) (c (.str (S ", "))) [comp true (src (vi 0 2)) [none,none] (.one 1) (tv (b2 (vi 1 0) (vi 1 1) (cmp .NotEq))) (b2 (b2 (vi 1 0) (c (.str (S "="))) (aw true .Add)) (vi 1 1) (aw true .Add))]]),ret (aY (cZ) (c (.str (S "; "))) [v 1])])
def bN:Fn:=run 2 4 (af [asg (.one 2) (aq jb [comp true (src (v 0)) [none,none] (.one 1) yes (tup [vi 1 0,vi 1 1])]),cw (src (v 1)) (.one 3) (af [iff (tv (b2 (vi 3 0) (v 2) (cmp .NotIn))) (af [j9]) (af []),iff (tv (b2 (aq cW [vi 3 1]) (b2 (v 2) (vi 3 0) ix) (cmp .NotEq))) (af [j9]) (af [])])])
def cO:Fn:=run 2 3 (af [cw (src (v 1)) (.one 2) (af [iff (tv (b2 (vi 2 0) (v 0) (cmp .In))) (af [j9]) (af [])])])
def jR:Fn:=run 2 3 (af [cw (src (v 1)) (.one 2) (af [iff (tv (aq aX [v 2])) (af [ja (aY (eR) (v 0) [v 2,v 2])]) (af [])])])
def bU:Fn:=run 2 5 (af [iff (tv (b2 (aq cW [v 1]) (c (.int 0)) (cmp .Eq))) (af [ret (aq (dC true) [v 0])]) (af []),asg (.one 2) (oY false),cw (src (v 1)) (.one 3) (af [sE (v 2) (v 3) (b2 (aY (fQ) (v 2) [v 3,c (.int 0)]) (c (.int 1)) (aw true .Add))]),asg (.one 4) (lst false []),cw (src (v 0)) (.one 3) (af [iff (tv (b2 (aY (fQ) (v 2) [v 3,c (.int 0)]) (c (.int 0)) (cmp .Gt))) (af [ua .Sub (v 2) (v 3) (c (.int 1))]) (af [ja (aY (aW) (v 4) [v 3])])]),cw (src (v 1)) (.one 3) (af [iff (tv (b2 (b2 (v 2) (v 3) ix) (c (.int 0)) (cmp .Gt))) (af [j9]) (af [])]),ret (v 4)])
def ie:Fn:=run 2 2 (af [iff (eG (tv (aq aX [v 0]))) (af [ret (v 0)]) (af []),iff (eG (tv (aq aX [v 1]))) (af [ret (v 1)]) (af []),ret (aq iE [v 0,v 1])])
def dR:Fn:=run 3 7 (af [asg (.one 3) (aY (fQ) (v 0) [v 1,v 1]),asg (.one 4) (aY (fQ) (v 0) [v 2,v 2]),iff (tv (b2 (v 3) (v 4) (cmp .Eq))) (af [ret (c (.bl true))]) (af []),iff (mw [eG (tv (aq aX [v 3])),eG (tv (aq aX [v 4]))]) (af [ret (c (.bl false))]) (af []),asg (.one 5) (aq ie [v 3,v 4]),cw (src (aq (dC true) [v 0])) (.one 6) (af [iff (tv (b2 (b2 (v 0) (v 6) ix) (tup [v 3,v 4]) (cmp .In))) (af [sE (v 0) (v 6) (v 5)]) (af [])]),ret (c (.bl true))])
def bV:Fn:=run 2 2 (af [ret (tup [vi 1 0,aq gA [comp true (src (vi 1 1)) [none,none,some 0] (.one 1) yes (aY (fQ) (v 2) [v 1,v 1])]])])
def dT:Fn:=run 5 13 (af [ja (aq bN [v 0,v 2]),ja (aq bN [v 0,v 3]),asg (.one 5) (comp true (src (v 0)) [none,none] (.one 1) (tv (vi 1 2)) (vi 1 0)),ja (aq cO [v 5,v 2]),iff (tv (vi 1 3)) (af [ret (c ay)]) (af []),asg (.one 6) (aq jb [vi 1 2]),asg (.one 8) (aq bU [vi 1 0,comp true (src (v 2)) [none,none,some 6] (.one 1) yes (aq bV [v 2,v 1])]),cw (src (v 3)) (.one 7) (af [ja (aq jR [v 6,vi 7 1])]),cw (src (v 4)) (.one 9) (af [ja (aq jR [v 6,v 9]),iff (eG (tv (aq dR [v 6,vi 9 0,vi 9 1]))) (af [ret (c ay)]) (af [])]),asg (.one 10) (aq (dC true) [vi 1 1]),iff (tv (b2 (aq cW [v 4]) (c (.int 0)) (cmp .Gt))) (af [asg (.one 8) (comp true (src (v 8)) [none,none,some 6] (.one 1) yes (aq bV [v 2,v 1])),asg (.one 10) (comp true (src (v 10)) [none,none,some 6] (.one 1) yes (aq bV [v 2,v 1]))]) (af []),asg (.one 11) (comp true (src (v 3)) [none,none,some 6] (.one 1) yes (aq bV [v 2,v 1])),asg (.one 12) (b2 (v 8) (comp true (src (v 11)) [none,none,some 5] (.one 1) (tv (b2 (vi 1 0) (v 2) (cmp .NotIn))) (v 1)) (aw true .Add)),asg (.one 10) (b2 (v 10) (comp true (src (v 11)) [none,none,some 5] (.one 1) (tv (b2 (vi 1 0) (v 2) (cmp .In))) (v 1)) (aw true .Add)),ret (tup [aq gA [aq (dO true) [v 12]],aq gA [aq (jv true) [v 10]],aq gA [aq (iw true) [v 6]],c (.bl false)])])
def bW:Fn:=run 1 1 (af [iff (tv (b2 (aq cW [vi 0 1]) (c (.int 0)) (cmp .Eq))) (af [ret (vi 0 0)]) (af []),ret (b2 (b2 (b2 (vi 0 0) (c (.str (S "("))) (aw true .Add)) (aY (cZ) (c (.str (S ","))) [vi 0 1]) (aw true .Add)) (c (.str (S ")"))) (aw true .Add))])
def cg:Fn:=run 1 1 (af [ret (aY (cZ) (c (.str (S ", "))) [comp true (src (v 0)) [none,none] (.one 1) yes (aq bW [v 1])])])
def bu:Fn:=run 1 2 (af [iff (tv (vi 0 3)) (af [ret (c (.str (S "broken")))]) (af []),asg (.one 1) (comp true (src (vi 0 2)) [none,none] (.one 1) (tv (b2 (vi 1 0) (vi 1 1) (cmp .NotEq))) (b2 (b2 (vi 1 0) (c (.str (S "="))) (aw true .Add)) (vi 1 1) (aw true .Add))),ret (aY (cZ) (c (.str (S "; "))) [lst true [aq cg [vi 0 0],aq cg [vi 0 1],aY (cZ) (c (.str (S ", "))) [v 1]]])])
theorem GB {L Ln L':Live} {t:T} (hl:L'.length=L.length) (ho:old L L') (ht:lt L.length t=true):fin L t (Ln++L')=.ok t L':=by
 have e:(Ln++L').drop ((Ln++L').length - L.length)=L':=by rw [OL,hl,Sp,TZ]
 unfold fin;rw [e,if_pos ho];unfold eY;rw [if_pos ht];rfl
theorem GC {L:Live} {c c':T} (h:lt (L.length+1) c'=true):old (c::L) (c'::L):=fun n d e=>by
 unfold at_ at e ⊢
 split at e
 ·cases e;exact .inr h
 ·rename_i z;rw [if_neg z];exact .inl e
theorem wj {L:Live} {c c' t:T} (h:lt (L.length+1) c'=true) (ht:lt (L.length+1) t=true):fin (c::L) t (c'::L)=.ok t (c'::L):=GB (Ln:=[]) rfl (GC h) ht
theorem lD {s:Cs} (h:1<=s.length) (L:Live):ix (.str s) (.int 0) L=.ok (.str [s.headD 0]) L:=by
 cases s with
 | nil=>cases h
 | cons a r=>simp [ix,vw,place,lift]
theorem dU (s:Cs) (hs:1<=s.length) (L:Live):aX [.str s] L=.ok (.bl (great s)) L:=by
 unfold aX mP great;simp_arith [lD hs];rfl
theorem iC {a b k:T} {ks:List (T × T)}:di ((a,b)::ks) k=(open Classical in if a=k then some b else di ks k):=by
 unfold di;rw [Qs];by_cases h:a=k <;> simp [h]
theorem C2 {α:Type} {g:α->Cs} (l:List α) (y:Cs):eF (.str y::l.map fun x=>.str (g x))=true:=by
 unfold eF;rw [Qh,Qh];refine .inl (.inl (OD.mpr fun x hx=>?_));rcases OS.mp hx with rfl|hx
 ·rfl
 ·obtain⟨z,_,rfl⟩:=OT.mp hx;rfl
theorem As {α:Type} {g:α->Cs} {h:α->T} (l:List α) (y:Cs):dh (l.map fun x=>(.str (g x),h x)) (.str y):=by
 unfold dh;rw [Py];exact C2 l y
theorem fv {ks:List (T × T)} {k t:T} (h:∀p∈ks,p.1≠k):dput ks k t=ks++[(k,t)]:=by
 unfold dput;rw [if_neg];intro z;obtain⟨p,hp,e⟩:=QT.mp z;exact h p hp (by simpa using e)
theorem C3 {α:Type} {g:α->Cs} {l:List α} (h:(l.map g).Nodup):(l.map fun x=>T.str (g x)).Nodup:=by
 rw [show(l.map fun x=>T.str (g x))=(l.map g).map T.str by simp];exact List.Pairwise.map T.str (fun a b hab e=>hab (T.str.inj e)) h
theorem C4 {α:Type} {g:α->Cs} {h:α->T} {l:List α} {x:α} (hn:(l.map g).Nodup) (hx:x∈l):di (l.map fun x=>(.str (g x),h x)) (.str (g x))=some (h x):=by
 induction l with
 | nil=>cases hx
 | cons y l ih =>
  rw [OZ,Qc] at hn;rw [OZ,iC];rcases OS.mp hx with rfl|hx
  ·rw [if_pos rfl]
  ·rw [if_neg (fun e=>hn.1 (by rw [T.str.inj e];exact O9 hx)),ih hn.2 hx]
theorem C5 {ps:List (T × T)} (h:(ps.map (·.1)).Nodup):mZ ps=ps:=by
 have key:∀(r d:List (T × T)),((d++r).map (·.1)).Nodup->r.foldl (fun acc p=>dput acc p.1 p.2) d=d++r:=by
  intro r;induction r with
  | nil=>intro d _;simp
  | cons p r ih =>
   intro d hn;rw [Se,fv,ih,PR];rfl
   ·rw [PR];exact hn
   ·intro q hq e
    rw [Pe,Q2] at hn;exact hn.2.2 _ (O9 hq) _ (O9 OI) e
 exact key ps [] h
theorem GD {α:Type} {g h:α->T} (l:List α):prsOf (l.map fun x=>.tup [g x,h x])=some (l.map fun x=>(g x,h x)):=by
 induction l with
 | nil=>rfl
 | cons x l ih=>simp only [OZ,prsOf,ih]
theorem wm {α:Type} {g:α->Cs} {h:α->T} (l:List α) (hn:(l.map g).Nodup) (hl:l.length<=100000) (L:Live):DC (l.map fun x=>.tup [.str (g x),h x]) L=.ok (.ref L.length) (.aO (l.map fun x=>(.str (g x),h x))::L):=by
 have e:(l.map fun x=>(T.str (g x),h x)).map (·.1)=l.map fun x=>T.str (g x):=by simp
 have hm:eF (l.map fun x=>T.str (g x))=true:=by
  unfold eF;rw [Qh,Qh];exact .inl (.inl (by simp [nh]))
 unfold DC;rw [GD];simp only [];rw [C5 (by rw [e];exact C3 hn),e,iJ ⟨hm,by simpa using hl⟩]
theorem cP (ks:List Kd) (fs:List Fc) (x:T) (L:Live) (hx:vw L x=.lst (ks.map kT)) (hn:(ks.map (·.n)).Nodup) (hk:ks.length<=20000) (hf:∀f∈fs,aK ks f) :
  bN [x,.lst (fs.map fT)] L=.ok .bK L:=by
 unfold bN;simp_arith;rw [bF (k:=stays x L) rfl ks kT (fun k=>.tup [.str k.n,.int k.c]) (by simp only [r7,DY,RE,Rc,cF,aZ,items,hx]) (by exact aJ) (by unfold lim;omega) (by exact fun b _=>by simp_arith)];simp_arith [jb,wm (g:=fun k:Kd=>k.n) (h:=fun k=>.int k.c) ks hn (by omega)];generalize ho:forL _ _ _ _ _ _=o;obtain⟨z,rfl⟩:=mO fs fT (fun z=>[some x,some (.lst (fs.map fT)),some (.ref L.length),z]) ho sv (fun _ _=>rfl) fun f hm=>by
  obtain⟨k,hk,e1,e2⟩:=hf f hm;have hg:=C4 (g:=fun k:Kd=>k.n) (h:=fun k=>T.int k.c) hn hk
  rw [e1] at hg;have hfit:dh (ks.map fun k=>(T.str k.n,T.int k.c)) (.str f.k):=As (g:=fun k:Kd=>k.n) (h:=fun k=>T.int k.c) ks f.k
  have i1:mY (.str f.k) (.ref L.length) (.aO (ks.map fun k=>(.str k.n,.int k.c))::L)=.ok true (.aO (ks.map fun k=>(.str k.n,.int k.c))::L):=by
   unfold mY;simp only [fH,dq,de];rw [iJ hfit,hg];rfl
  have i2:ix (.ref L.length) (.str f.k) (.aO (ks.map fun k=>(.str k.n,.int k.c))::L)=.ok (.int k.c) (.aO (ks.map fun k=>(.str k.n,.int k.c))::L):=by
   unfold ix;simp only [fH,dq,de];rw [iJ hfit,hg];rfl
  simp_arith [i1,i2,show((f.as.length:Int) != (k.c:Int))=false by simp;omega]
 simp_arith;exact ic rfl
theorem fU (ls:List Cs) (fs:List Fc) (hf:∀f∈fs,f.k∉ls) (L:Live):cO [.lst (ls.map .str),.lst (fs.map fT)] L=.ok .bK L:=by
 unfold cO;simp_arith;generalize ho:forL _ _ _ _ _ _=o;obtain⟨z,rfl⟩:=mO fs fT (fun z=>[some (.lst (ls.map .str)),some (.lst (fs.map fT)),z]) ho sv (fun _ _=>rfl) fun f hm=>by simp_arith [decide_eq_false (hf f hm)]
 simp_arith
theorem i5 {α:Type} {p:α->Bool} {l:List α} {n:Nat} (h:l.length<=n):(l.filter p).length<=n:=Pq (P6 _ _) h
theorem all2 {α:Type} {P:α->Prop} {a b f:α} (ha:P a) (hb:P b) (h:f∈[a,b]):P f:=by
 rcases OS.mp h with rfl|h
 ·exact ha
 ·rw [OK.mp h];exact hb
theorem d4 {a:Cs} (h:iA a):1<=a.length/\a.length<=12:=eX h.1
theorem twice {T g:Prop} (a:T->g) (b:T):g:=a b
theorem i6:∀(st:bq) (n:Cs),di (st.map fun p=>(T.str p.1,T.str p.2)) (.str n)=(gh st n).map .str
 | [],n=>rfl
 | (a,b)::st,n=>by
  rw [OZ,iC,i6 st n];unfold gh;rw [Qs];by_cases h:a=n
  ·rw [if_pos (by rw [h]),decide_eq_true h];rfl
  ·rw [if_neg (fun e=>h (T.str.inj e)),decide_eq_false h]
theorem mQ (st:bq) (n:Cs):dh (st.map fun p=>(T.str p.1,T.str p.2)) (.str n):=As (g:=fun p:Cs × Cs=>p.1) (h:=fun p=>T.str p.2) st n
theorem Au (st:bq) (n:Cs) (L:Live):lI (.aO (st.map fun p=>(T.str p.1,T.str p.2))) [.str n,.str n] L=.ok (.str (bJ st n)) L:=by
 unfold lI vw;simp only [];rw [aI (mQ st n),i6];unfold bJ;cases gh st n <;> rfl
theorem GF {st:bq} {m:Nat} {n:Cs} {L:Live} (h:at_ L m=some (cT st)):lI (.ref m) [.str n,.str n] L=.ok (.str (bJ st n)) L:=by
 have:=Au st n L;unfold lI at this ⊢;rw [fH,h];exact this
noncomputable def wo (L:Live) (x:T) (st:bq):Prop:=x=cT st\/∃n,x=.ref n/\at_ L n=some (cT st)
theorem C6 {L:Live} {x:T} {st:bq} (h:wo L x st) {a:SE} {ms:List SE} {φ:Fr} {n:Cs} (ha:a φ L=.ok x L) (hm:d5 ms φ L=.ok [.str n,.str n] L):aY fQ a ms φ L=.ok (.str (bJ st n)) L:=by
 unfold aY;rw [ha,aZ];rcases h with rfl|⟨m,rfl,h⟩
 ·simp only [xG,vw,cT,Rb,fQ,hm,aZ,Au]
 ·simp only [xG,fH,h,de,cT,Rb,fQ,hm,aZ]
  exact GF h
theorem tK {L:Live} {x:T} {st:bq} (h:wo L x st) (f:Fc) (hf:f.as.length<=1000):bV [x,fT f] L=.ok (fT (wr st f)) L:=by
 unfold bV;simp_arith;rw [bF rfl f.as T.str (fun n=>.str (bJ st n)) (by exact rfl) (by exact aJ) (by unfold lim;omega) (by exact fun b _=>C6 h rfl rfl)];simp_arith;rw [show((f.as.map fun n=>T.str (bJ st n)))=(f.as.map (bJ st)).map .str by simp];exact fin_same (dP _ (wr st f))
theorem sf (st:bq) (n v:Cs):dput (st.map fun p=>(T.str p.1,T.str p.2)) (.str n) (.str v)=(if n∈st.map (·.1) then st.map (fun e=>if e.1=n then (e.1,v) else e) else st++[(n,v)]).map fun p=>(T.str p.1,T.str p.2):=by
 by_cases h:n∈st.map (·.1)
 ·obtain⟨e,he,rfl⟩:=OT.mp h
  rw [if_pos h];unfold dput;rw [if_pos (QT.mpr ⟨(.str e.1,.str e.2),OT.mpr ⟨e,he,rfl⟩,by simp⟩),Py,Py];refine Qv fun p hp=>?_
  simp only [SG];by_cases z:p.1=e.1
  ·rw [if_pos (by rw [z]),if_pos z]
  ·rw [if_neg (fun q=>z (T.str.inj q)),if_neg z]
 ·rw [if_neg h,fv]
  ·simp
  ·intro p hp
   obtain⟨y,hy,rfl⟩:=OT.mp hp;exact fun e=>h (by rw [<- T.str.inj e];exact O9 hy)
theorem C7 {st:bq} {n:Cs} {L:Live} (hl:st.length<lim) (hg:great n=true):∃t,uc (.ref L.length) [.str n,.str n] (cT st::L)=.ok t (cT (dM st n)::L):=by
 unfold uc;simp only [dq,cT];rw [aI ⟨by simpa using hl,mQ st n⟩,i6];cases e:gh st n with
 | some v =>
  refine⟨.str v,?_⟩;have hm:n∈st.map (·.1):=by
   unfold gh at e;obtain⟨p,hp,_⟩:=OW.mp e;have:=Tr hp
   exact OT.mpr ⟨p,QN hp,by simpa using this⟩
  unfold dM;rw [if_pos hg,if_pos hm];rfl
 | none =>
  refine⟨.str n,?_⟩;have hm:n∉st.map (·.1):=fun h=>by
   obtain⟨p,hp,rfl⟩:=OT.mp h;unfold gh at e;have:=Qg.mp (UQ.mp e) p hp
   simp at this
  unfold dM;rw [if_pos hg,if_neg hm];simp only [Option.map_none];rw [sf,if_neg hm,wg]
theorem oz (st:bq) (n:Cs):(dM st n).length<=st.length+1:=by unfold dM;split <;> (try split) <;> simp
theorem i7 (ns:List Cs):∀st:bq,(fj st ns).length<=st.length+ns.length:=by
 induction ns with
 | nil=>intro st;simp [fj]
 | cons n ns ih =>
  intro st;have h1:=ih (dM st n)
  have h2:=oz st n;have:fj st (n::ns)=fj (dM st n) ns:=rfl
  rw [this,OP];omega
theorem wq (st:bq) (ns:List Cs) (x:T) (hx:items x (cT st::L)=some (ns.map .str)) (hv:∀k,x≠.ref k) (hn:∀n∈ns,1<=n.length) (hl:st.length+ns.length<1000):jR [.ref L.length,x] (cT st::L)=.ok .bK (cT (fj st ns)::L):=by
 have hs:src (v 1) [some (.ref L.length),some x,none] (cT st::L)=.ok (ns.map .str,stays x (cT st::L)) (cT st::L):=by
  simp only [r7,DY,Uu,RE,Rc,cF,aZ,hx]
 unfold jR;simp only [lq,OP,Pz,Uv,if_true,jK,v7,OZ,Qp,S4,QE,Uw,Pd,v5,hs,of_ok];generalize ho:forL _ _ _ _ _ _=o;obtain⟨z,_,rfl⟩:=se ns T.str cT dM (fun r s=>s.length+r.length<1000/\∀n∈r,1<=n.length) (fun z (_:Unit)=>[some (.ref L.length),some x,z]) (w:=()) ho (fun _=>zr hv _) (fun _ _ _=>rfl) ⟨hl,hn⟩ fun n r s _ h=>by
  have h1:=oz s n;have h2:=h.1
  rw [OP] at h2;refine⟨⟨by omega,fun m hm=>h.2 m (OG _ hm)⟩,(),?_⟩;simp_arith [dU n (h.2 n OI)];cases hg:great n with
  | false=>simp_arith;rw [show dM s n=s by unfold dM;rw [hg];rfl]
  | true =>
   obtain⟨t,ht⟩:=C7 (L:=L) (st:=s) (n:=n) (by unfold lim;omega) hg;simp only [cT] at ht ⊢;simp_arith [ht]
 simp_arith;exact wj (qo _ _) rfl
theorem sg (a b:Cs):fN a b=decide (a<b):=rfl
theorem wt (p q:Cs) (hp:1<=p.length) (hq:1<=q.length) (L:Live):ie [.str p,.str q] L=.ok (.str (Un.dF great fN p q)) L:=by
 unfold ie Un.dF;simp_arith [dU p hp];cases h1:great p with
 | false=>simp_arith
 | true =>
  simp_arith [dU q hq];cases h2:great q with
  | false=>simp_arith;simp
  | true=>simp_arith [show iE [.str p,.str q] L=ub [.str p,.str q] L from rfl,ub,Un.mn,sg,decide_eq_true_eq];simp
theorem tL {k:Live->Prop} {b:SS} {o:O} {L:Live} {st:bq} {ch:Cs} (g:Cs->Bool) (i:Nat) (F:Option T->Fr) (z:Option T) (nd:(st.map (·.1)).Nodup) (hl:st.length<=1000)
  (ho:forL k (.one i) b ((st.map (·.1)).map .str) (F z) (cT st::L)=o) (hk:∀L',k L') (hF:∀z x,(F z).set i (some x)=F (some x))
  (hb:∀(D D':bq) (x:Cs × Cs),ix (.ref L.length) (.str x.1) (cT D::L)=.ok (.str x.2) (cT D::L)->iP (.ref L.length) (.str x.1) (.str ch) (cT D::L)=some (cT D'::L)->b (F (some (.str x.1))) (cT D::L)=.nx (F (some (.str x.1))) (cT (if g x.2=true then D' else D)::L)) :
  ∃z,o=.nx (F z) (cT (st.map fun e=>(e.1,if g e.2=true then ch else e.2))::L):=by
 generalize hG:(fun e:Cs × Cs=>(e.1,if g e.2=true then ch else e.2))=G;have gk:∀l:bq,(l.map G).map (·.1)=l.map (·.1):=fun l=>by rw [Py,<- hG];rfl
 refine dH ho st (fun e=>T.str e.1) (fun r φ L'=>∃done z,done++r=st/\φ=F z/\L'=cT (done.map G++r)::L) (fun o=>∃z,o=.nx (F z) (cT (st.map G)::L)) (by simp) ⟨[],z,rfl,rfl,rfl⟩ (fun _ _ eJ eP x r φ L' hh=>?_) fun φ L' hh=>?_
 ·obtain⟨done,z,e1,rfl,rfl⟩:=hh
  refine⟨hk _,_,rfl,?_⟩;have nk:((done.map G++x::r).map (·.1)).Nodup:=by
   rw [Pe,gk,<- Pe,e1];exact nd
  have hlen:(done.map G++x::r).length<=1000:=by rw [OL,Lm9,<- OL,e1];exact hl
  rw [Pe,Q2,OZ,Qc] at nk;have hx:gh (done.map G++x::r) x.1=some x.2:=by
   unfold gh;rw [Ui,Qg.mpr,Option.none_or,Qs,decide_eq_true rfl];rfl;exact fun y hy z=>nk.2.2 _ (O9 hy) _ OI (by simpa using z)
  rw [hF,hb (done.map G++x::r) (done.map G++(x.1,ch)::r) x ?_ ?_,oy,eJ]
  ·refine⟨done++[x],_,by simpa using e1,rfl,?_⟩
   rw [Pe,OZ,Qp,PR,List.singleton_append,<- hG];by_cases h:g x.2=true <;> simp only [h,if_true,if_false,OQ]
  ·unfold ix
   simp only [fH,dq,de,cT];rw [aI (mQ _ _),i6,hx];rfl
  ·have K2:∀l:List (Cs × Cs),(∀e∈l,e.1≠x.1)->l.map (fun e=>if e.1=x.1 then (e.1,ch) else e)=l:=fun l h=>by
    conv=>rhs;rw [<- Ux l]
    exact Qv fun e he=>by rw [if_neg (h e he)];rfl
   unfold iP cT;simp only [dq];rw [if_pos ⟨by rw [Lm9];unfold lim;omega,mQ _ _⟩,sf,if_pos (by simp),wg];congr 4;rw [Pe,OZ,if_pos rfl,K2 _ fun e he z=>nk.2.2 _ (O9 he) _ OI z,K2 r fun e he z=>nk.2.1.1 (by rw [<- z];exact O9 he)]
 ·obtain⟨done,z,e1,rfl,rfl⟩:=hh
  rw [QD] at e1;rw [e1,QD];exact⟨hk _,_,rfl⟩
theorem list_st {st:bq} {L:Live} (hl:st.length<=1000):dC true [.ref L.length] (cT st::L)=.ok (.lst ((st.map (·.1)).map .str)) (cT st::L):=by
 have e:(st.map fun p=>(T.str p.1,T.str p.2)).map (·.1)=(st.map (·.1)).map .str:=by simp
 unfold dC cT;simp only [fH,dq,de];rw [e,eE,aI (by simp;unfold lim;omega)];rfl
theorem C8 (st:bq) (a b:Cs) (nd:(st.map (·.1)).Nodup) (hl:st.length<=1000) (hp:1<=(bJ st a).length) (hq:1<=(bJ st b).length) (L:Live) :
  dR [.ref L.length,.str a,.str b] (cT st::L)=if dG (bJ st a) (bJ st b) then .ok (.bl false) (cT st::L) else .ok (.bl true) (cT (bM st (bJ st a) (bJ st b))::L):=by
 have tX:wo (cT st::L) (.ref L.length) st:=.inr ⟨_,rfl,dq⟩;unfold dR;simp only [lq,OP,Pz,Uv,if_true,jK,OZ,Qp,S4,QE,Uw,Pd,vZ];rw [C6 (n:=a) tX rfl rfl];simp only [of_ok,Tg.set,mL,List.set_cons_succ,List.set_cons_zero,jK,vZ];rw [C6 (n:=b) tX rfl rfl];generalize bJ st a=p at *
 generalize bJ st b=q at *
 simp_arith;by_cases e:p=q
 ·subst e
  rw [if_neg (show ¬ dG p p from fun z=>z.1 rfl),show bM st p p=st by unfold bM;rw [if_pos rfl]];simp_arith
 ·simp_arith [show(p == q)=false from beq_eq_false_iff_ne.mpr e,dU p hp,dU q hq]
  by_cases ht:dG p q
  ·rw [if_pos ht]
   simp_arith [ht.2.1,ht.2.2]
  ·rw [if_neg ht]
   have hg:(if (!great p)=true then !great q else false)=false:=by
    cases h1:great p with
    | true=>rfl
    | false =>
     cases h2:great q with
     | true=>rfl
     | false=>exact absurd ⟨e,h1,h2⟩ ht
   simp_arith [hg,wt p q hp hq,list_st hl];generalize tT:Un.dF great fN p q=ch;generalize ho:forL _ _ _ _ _ _=o;obtain⟨z,rfl⟩:=tL (ch:=ch) (fun v=>decide (v∈[p,q])) 6 (fun z=>[some (.ref L.length),some (.str a),some (.str b),some (.str p),some (.str q),some (.str ch),z]) none nd hl ho (fun _=>sv) (fun _ _=>rfl) (fun D D' x Nc JK=>by
    have Et:=Gr (x:=x.2) (ys:=[p,q]) (L:=cT D::L);simp only [OZ,Qp] at Et;simp_arith [Nc,Et];by_cases hm:x.2∈[p,q]
    ·simp_arith [hm,decide_true,JK]
    ·simp only [hm,decide_false,OQ,if_false];simp_arith)
   simp_arith;rw [show bM st p q=st.map fun e=>(e.1,if decide (e.2∈[p,q])=true then ch else e.2) by unfold bM;rw [if_neg e,<- tT];exact Qv fun e _=>by simp [iM]];exact wj (qo _ _) rfl
theorem dJ {α β:Type} (f:α->β) (l:List α) (x:α):l.map f++[f x]=(l++[x]).map f:=by simp
theorem mR {f g:Fc} (h:fT f=fT g):f=g:=by
 have:=congrArg (fun t=>eqT t (fT g)) h;simp only [lB,decide_true,decide_eq_true_eq] at this;exact this
abbrev Wn:=List (Fc × Int)
noncomputable def wD (W:Wn):List (T × T):=W.map fun p=>(fT p.1,.int p.2)
noncomputable def wV (W:Wn) (f:Fc):Int:=((W.find? fun p=>decide (p.1=f)).map (·.2)).getD 0
noncomputable def wS (W:Wn) (f:Fc) (n:Int):Wn:=if f∈W.map (·.1) then W.map (fun p=>if p.1=f then (p.1,n) else p) else W++[(f,n)]
theorem C9 (n:Nat) (l:List Cs):(l.map T.str).all (kd (n+1))=true:=by simp [kd,nh]
theorem wu (f:Fc):AI (fT f)=true:=by
 show(kd 6 (.str f.k) && (kd 6 (.tup (f.as.map .str)) && true))=true;rw [show kd 6 (.tup (f.as.map .str))=(f.as.map T.str).all (kd 5) from rfl,C9 4];rfl
theorem wx (W:Wn) (f:Fc):dh (wD W) (fT f):=by
 unfold dh eF wD;rw [Qh,Qh];refine .inl (.inr (OD.mpr fun x hx=>?_));rcases OS.mp hx with rfl|hx
 ·exact wu f
 ·obtain⟨p,hp,rfl⟩:=OT.mp hx
  obtain⟨q,_,rfl⟩:=OT.mp hp;exact wu q.1
theorem qp:∀(W:Wn) (f:Fc),di (wD W) (fT f)=(W.find? fun p=>decide (p.1=f)).map fun p=>.int p.2
 | [],f=>rfl
 | (a,b)::W,f=>by
  have ih:=qp W f;unfold wD at ih ⊢;rw [OZ,iC,ih,Qs];by_cases h:a=f
  ·rw [if_pos (by rw [h]),decide_eq_true h];rfl
  ·rw [if_neg (fun e=>h (mR e)),decide_eq_false h]
theorem Dc (W:Wn) (f:Fc) (n:Int):dput (wD W) (fT f) (.int n)=wD (wS W f n):=by
 unfold wS;by_cases h:f∈W.map (·.1)
 ·obtain⟨e,he,rfl⟩:=OT.mp h
  rw [if_pos h];unfold dput wD;rw [if_pos (QT.mpr ⟨(fT e.1,.int e.2),OT.mpr ⟨e,he,rfl⟩,by simp⟩),Py,Py];refine Qv fun p hp=>?_
  simp only [SG];by_cases z:p.1=e.1
  ·rw [if_pos (by rw [z]),if_pos z]
  ·rw [if_neg (fun q=>z (mR q)),if_neg z]
 ·rw [if_neg h,fv]
  ·simp [wD]
  ·intro p hp
   obtain⟨y,hy,rfl⟩:=OT.mp hp;exact fun e=>h (by rw [<- mR e];exact O9 hy)
theorem GG (W:Wn) (f g:Fc) (n:Int):wV (wS W f n) g=if g=f then n else wV W g:=by
 unfold wV wS;by_cases h:f∈W.map (·.1)
 ·rw [if_pos h]
  induction W with
  | nil=>cases h
  | cons p W ih =>
   rw [OZ,Qs,Qs];by_cases e:p.1=f
   ·rw [if_pos e]
    by_cases q:g=f
    ·rw [if_pos q,decide_eq_true (by rw [e,q])];rfl
    ·rw [if_neg q,decide_eq_false (by rw [e];exact Qz q)]
     simp only [];by_cases h':f∈W.map (·.1)
     ·rw [ih h',if_neg q]
     ·rw [show W.map (fun p=>if p.1=f then (p.1,n) else p)=W from ?_]
      conv=>rhs;rw [<- Ux W]
      refine Qv fun y hy=>?_
      rw [if_neg (fun z=>h' (by rw [<- z];exact O9 hy))];rfl
   ·rw [if_neg e]
    have h':f∈W.map (·.1):=(OS.mp h).resolve_left (Qz e);by_cases z:p.1=g
    ·rw [decide_eq_true z]
     simp only [];rw [if_neg (fun q=>e (z.trans q))]
    ·rw [decide_eq_false z]
     exact ih h'
 ·rw [if_neg h,Ui]
  by_cases q:g=f
  ·subst q
   rw [Qg.mpr]
   ·simp
   ·intro y hy z
    exact h (OT.mpr ⟨y,hy,by simpa using z⟩)
  ·rw [if_neg q]
   cases W.find? fun p=>decide (p.1=g) with
   | some y=>rfl
   | none=>simp [Qz q]
theorem qq {W:Wn} {f:Fc} {n:Int}:f∈(wS W f n).map (·.1)/\∀g∈W.map (·.1),g∈(wS W f n).map (·.1):=by
 unfold wS;by_cases h:f∈W.map (·.1)
 ·have e:(W.map fun p=>if p.1=f then (p.1,n) else p).map (·.1)=W.map (·.1):=by
   rw [Py];refine Qv fun p _=>?_
   simp only [SG];split <;> rfl
  rw [if_pos h,e];exact⟨h,fun _ z=>z⟩
 ·rw [if_neg h]
  exact⟨by simp,fun g hg=>by rw [Pe];exact Pu _ hg⟩
theorem Dd {W:Wn} {f:Fc} (h:f∈W.map (·.1)):∃p,W.find? (fun p=>decide (p.1=f))=some p/\p.2=wV W f:=by
 obtain⟨q,hq,rfl⟩:=OT.mp h;unfold wV;cases e:W.find? fun p=>decide (p.1=q.1) with
 | none=>exact absurd (Qg.mp e q hq) (by simp)
 | some p=>exact⟨p,rfl,rfl⟩
theorem wy (W:Wn) (f:Fc) (n:Int):(wS W f n).length<=W.length+1:=by unfold wS;split <;> simp
section
variable {L:Live} {W:Wn} {c:T} {f:Fc}
theorem GH (h:at_ L n=some (.aO (wD W))):lI (.ref n) [fT f,.int 0] L=.ok (.int (wV W f)) L:=by
 unfold lI;simp only [fH,h,de];rw [aI (wx W f),qp];unfold wV;cases W.find? fun p=>decide (p.1=f) <;> rfl
theorem GI (h:at_ L n=some (.aO (wD W))) (hl:W.length<lim) (i:Int):iP (.ref n) (fT f) (.int i) L=some (put L n (.aO (wD (wS W f i)))):=by
 unfold iP;simp only [h];rw [if_pos ⟨by unfold wD;simpa using hl,wx W f⟩,Dc]
end
theorem K3 {L:Live} {W:Wn} {f:Fc} {n:Nat} (h:at_ L n=some (.aO (wD W))) (hf:f∈W.map (·.1)):ix (.ref n) (fT f) L=.ok (.int (wV W f)) L/\D7 (.ref n) (fT f) L=.ok (.int (wV W f)) L:=by
 obtain⟨p,hp,e⟩:=Dd hf;unfold ix D7;simp only [fH,h,de];rw [aI (wx W f),qp,hp,<- e];exact⟨rfl,rfl⟩
theorem GJ (bp ts:List Fc) (hb:bp.length<=1000) (ht:ts.length<=1000) (hs:∀f,ts.count f<=bp.count f) (L:Live):∃left:List Fc,(∀f,left.count f=bp.count f - ts.count f)/\bU [.tup (bp.map fT),.lst (ts.map fT)] L=.ok (.lst (left.map fT)) L:=by
 by_cases h0:ts=[]
 ·subst h0
  refine⟨bp,fun f=>by simp,?_⟩;have JL:dC true [.tup (bp.map fT)] L=.ok (.lst (bp.map fT)) L:=by
   show eE true (bp.map fT) L=_;rw [eE,aI (by simp;unfold lim;omega)];rfl
  unfold bU;simp_arith [show(((([]:List Fc).map fT).length:Int) == 0)=true from rfl,JL];exact fin_same (dY dP)
 have main:∃left:List Fc,(∀f,left.count f=bp.count f - ts.count f)/\∃W,bU [.tup (bp.map fT),.lst (ts.map fT)] L=fin L (.ref (L.length+1)) (.lst (left.map fT) :: .aO (wD W)::L):=by
  unfold bU;simp_arith [show((ts.length:Int) == 0)=false by simpa using h0];generalize ho:forL _ _ _ _ _ _=o;have h:=dH ho ts fT (fun r φ L'=>∃(done:List Fc) (W:Wn) (o3:Option T),done++r=ts/\(∀f,wV W f=done.count f)/\W.length<=done.length/\(∀f∈done,f∈W.map (·.1))/\φ=[some (.tup (bp.map fT)),some (.lst (ts.map fT)),some (.ref L.length),o3,none]/\L'=.aO (wD W)::L)
   (fun o=>∃(W:Wn) (o3:Option T),(∀f,wV W f=ts.count f)/\W.length<=ts.length/\(∀f∈ts,f∈W.map (·.1))/\o=.nx [some (.tup (bp.map fT)),some (.lst (ts.map fT)),some (.ref L.length),o3,none] (.aO (wD W)::L)) rfl ⟨[],[],none,rfl,fun f=>rfl,OR _,(by simp),rfl,rfl⟩ (fun _ _ eJ eP f r φ L' hh=>by
    obtain⟨done,W,o3,e1,h1,h2,h3,rfl,rfl⟩:=hh;have hd:done.length<=ts.length:=by rw [<- e1];simp
    refine⟨sv,_,rfl,?_⟩;simp_arith [eJ,eP,GH (f:=f) (W:=W) (L:=.aO (wD W)::L) dq,GI (f:=f) (W:=W) (L:=.aO (wD W)::L) dq (by unfold lim;omega)];refine⟨done++[f],wS W f (wV W f+1),_,by simpa using e1,fun g=>?_,?_,fun g hg=>?_,rfl,rfl⟩
    ·rw [GG,h1,RV,Ta]
     by_cases z:g=f
     ·subst z;simp [h1]
     ·rw [if_neg z,if_neg (by simpa using Qz z),h1];simp
    ·have:=wy W f (wV W f+1);simp;omega
    ·rcases OU.mp hg with hg|hg
     ·exact qq.2 g (h3 g hg)
     ·rw [OK.mp hg];exact qq.1)
   fun φ L' hh=>by
    obtain⟨done,W,o3,e1,h1,h2,h3,rfl,rfl⟩:=hh;rw [QD] at e1;subst e1;exact⟨sv,W,o3,h1,h2,h3,rfl⟩
  obtain⟨W0,o3,K4,Nd,Nf,rfl⟩:=h;simp_arith;generalize ho:forL _ _ _ _ _ _=o;have h:=dH ho bp fT (fun r φ L'=>∃(done:List Fc) (W:Wn) (left:List Fc) (o3:Option T),done++r=bp/\W.length<=ts.length+done.length/\left.length<=done.length/\(∀f∈ts,f∈W.map (·.1))/\(∀f,0<=wV W f/\(left.count f:Int)+(ts.count f - wV W f)=done.count f/\(0<wV W f->left.count f=0))/\φ=[some (.tup (bp.map fT)),some (.lst (ts.map fT)),some (.ref L.length),o3,some (.ref (L.length+1))]/\L'=.lst (left.map fT) :: .aO (wD W)::L)
   (fun o=>∃(W:Wn) (left:List Fc) (o3:Option T),(∀f∈ts,f∈W.map (·.1))/\(∀f,wV W f=0/\left.count f=bp.count f - ts.count f)/\o=.nx [some (.tup (bp.map fT)),some (.lst (ts.map fT)),some (.ref L.length),o3,some (.ref (L.length+1))] (.lst (left.map fT) :: .aO (wD W)::L)) rfl
   ⟨[],W0,[],o3,rfl,by simpa using Nd,OR _,Nf,fun f=>⟨by rw [K4];omega,by rw [K4];simp,fun _=>rfl⟩,rfl,rfl⟩ (fun _ _ eJ eP f r φ L' hh=>by
    obtain⟨done,W,left,o3,e1,h1,h2,h3,h4,rfl,rfl⟩:=hh;have hd:done.length<=bp.length:=by rw [<- e1];simp
    refine⟨sv,_,rfl,?_⟩;have D0:at_ (.lst (left.map fT) :: .aO (wD W)::L) L.length=some (.aO (wD W)):=we
    simp_arith [eJ,eP,GH (f:=f) D0];have cd:∀g:Fc,(done++[f]).count g=done.count g+if g=f then 1 else 0:=fun g=>by
     rw [RV,Ta];by_cases z:g=f
     ·subst z;simp
     ·rw [if_neg (by simpa using Qz z),if_neg z]
    by_cases hp:0<wV W f
    ·have hmem:f∈W.map (·.1):=by
      refine Decidable.byContradiction fun z=>?_
      have:wV W f=0:=by
       unfold wV;rw [Qg.mpr fun p hp q=>z (OT.mpr ⟨p,hp,by simpa using q⟩)];rfl
      omega
     simp_arith [eJ,eP,hp,decide_true,(K3 D0 hmem).2,GI (f:=f) D0 (by unfold lim;omega)];refine⟨done++[f],wS W f (wV W f - 1),left,_,by simpa using e1,?_,?_,fun g hg=>qq.2 g (h3 g hg),fun g=>?_,rfl,rfl⟩
     ·have:=wy W f (wV W f - 1);simp;omega
     ·simp;omega
     ·rw [GG,cd]
      obtain⟨a1,a2,a3⟩:=h4 g;by_cases z:g=f
      ·subst z
       rw [if_pos rfl,if_pos rfl];exact⟨by omega,by omega,fun _=>a3 hp⟩
      ·rw [if_neg z,if_neg z]
       exact⟨a1,by omega,a3⟩
    ·simp_arith [eJ,eP,hp,decide_false,aI (show left.length<lim by unfold lim;omega),dJ]
     refine⟨done++[f],W,left++[f],_,by simpa using e1,?_,by simp;omega,h3,fun g=>?_,rfl,rfl⟩
     ·simp;omega
     ·rw [cd]
      obtain⟨a1,a2,a3⟩:=h4 g;have cl:(left++[f]).count g=left.count g+if g=f then 1 else 0:=by
       rw [RV,Ta];by_cases z:g=f
       ·subst z;simp
       ·rw [if_neg (by simpa using Qz z),if_neg z]
      rw [cl];by_cases z:g=f
      ·subst z
       rw [if_pos rfl];exact⟨a1,by omega,fun q=>absurd q hp⟩
      ·rw [if_neg z]
       exact⟨a1,by omega,fun q=>by have:=a3 q;omega⟩)
   fun φ L' hh=>by
    obtain⟨done,W,left,o3,e1,h1,h2,h3,h4,rfl,rfl⟩:=hh;rw [QD] at e1;subst e1;refine⟨sv,W,left,o3,h3,fun f=>?_,rfl⟩;obtain⟨a1,a2,a3⟩:=h4 f;have:=hs f
    by_cases q:0<wV W f
    ·have:=a3 q;omega
    ·omega
  obtain⟨W,left,o3,hm,hw,rfl⟩:=h;simp_arith;generalize ho:forL _ _ _ _ _ _=o;obtain⟨z,rfl⟩:=mO ts fT (fun z=>[some (.tup (bp.map fT)),some (.lst (ts.map fT)),some (.ref L.length),z,some (.ref (L.length+1))]) ho sv (fun _ _=>rfl) fun f h=>by simp_arith [(K3 (L:=.lst (left.map fT) :: .aO (wD W)::L) we (hm f h)).1,(hw f).1,Int.lt_irrefl,decide_false]
  simp_arith;exact⟨left,fun f=>(hw f).2,W,rfl⟩
 obtain⟨left,hc,W,e⟩:=main;exact⟨left,hc,e.trans (CZ (dY dP))⟩
theorem De {x y:T} (hx:kd 8 x=true) (hy:kd 8 y=true) (h:ltN 8 y x=false):x=y\/ltN 8 x y=true:=by
 by_cases e:x=y
 ·exact .inl e
 ·rcases g6 8 _ _ hx hy e with q|q
  ·exact .inr q
  ·rw [h] at q;cases q
theorem oE (x:T) (hx:kd 8 x=true):∀l:List T,(∀y∈l,kd 8 y=true)->f9 l->∃l',l'.Perm (x::l)/\f9 l'
 | [],_,_=>⟨[x],.refl _,by simp [f9]⟩
 | y::l,hk,hr=>by
  have hy:=hk y OI;have hr':=QS.mp hr
  cases e:ltN 8 y x with
  | false =>
   refine⟨x::y::l,.refl _,QS.mpr ⟨fun z hz=>?_,hr⟩⟩;rcases OS.mp hz with rfl|hz
   ·exact e
   ·have h1:=hr'.1 z hz
    rcases De hx hy e with rfl|q
    ·exact h1
    ·cases e2:ltN 8 z x with
     | false=>rfl
     | true=>rw [cD 8 _ _ _ e2 q] at h1;cases h1
  | true =>
   obtain⟨l',p,r⟩:=oE x hx l (fun z hz=>hk z (OG _ hz)) hr'.2;refine⟨y::l',(p.cons y).trans (.swap _ _ _),QS.mpr ⟨fun z hz=>?_,r⟩⟩;rcases OS.mp (p.mem_iff.mp hz) with rfl|hz
   ·cases e2:ltN 8 z y with
    | false=>rfl
    | true=>have:=cD 8 _ _ _ e e2;rw [iZ] at this;cases this
   ·exact hr'.1 z hz
theorem si:∀l:List T,(∀y∈l,kd 8 y=true)->∃l',l'.Perm l/\f9 l'
 | [],_=>⟨[],.refl _,SO⟩
 | x::l,h=>by
  obtain⟨l1,p1,r1⟩:=si l fun y hy=>h y (OG _ hy)
  obtain⟨l2,p2,r2⟩:=oE x (h x OI) l1 (fun y hy=>h y (OG _ (p1.mem_iff.mp hy))) r1;exact⟨l2,p2.trans (p1.cons x),r2⟩
theorem fI {l:List T} (h:∀y∈l,kd 8 y=true):(eB l).Perm l/\f9 (eB l):=by
 obtain⟨l',p,r⟩:=si l h;rw [ju (OD.mpr h) p r];exact⟨p,r⟩
theorem oF {α:Type} {g:α->T} {l l2:List T} (p:l.Perm l2):∀fs:List α,l2=fs.map g->∃gs:List α,gs.Perm fs/\l=gs.map g:=by
 induction p with
 | nil =>
  intro fs e;cases fs with
  | nil=>exact⟨[],.refl _,rfl⟩
  | cons f fs=>cases e
 | cons x p ih =>
  intro fs e;cases fs with
  | nil=>cases e
  | cons f fs =>
   cases e;obtain⟨gs,q,e⟩:=ih fs rfl;exact⟨f::gs,q.cons f,by rw [e];rfl⟩
 | swap x y l =>
  intro fs e
  match fs,e with
  | a::b::fs,e=>cases e;exact⟨b::a::fs,.swap _ _ _,rfl⟩
 | trans p q Iy Iz =>
  intro fs e;obtain⟨gs,r1,e1⟩:=Iz fs e;obtain⟨hs,r2,e2⟩:=Iy gs e1;exact⟨hs,r2.trans r1,e2⟩
theorem Dg (f:Fc):kd 8 (fT f)=true:=by
 show(kd 7 (.str f.k) && (kd 7 (.tup (f.as.map .str)) && true))=true;rw [show kd 7 (.tup (f.as.map .str))=(f.as.map T.str).all (kd 6) from rfl,C9 5];rfl
theorem GK (f:Fc):kd 6 (fT f)=true:=by
 show(kd 5 (.str f.k) && (kd 5 (.tup (f.as.map .str)) && true))=true;rw [show kd 5 (.tup (f.as.map .str))=(f.as.map T.str).all (kd 4) from rfl,C9 3];rfl
theorem GL (n:Nat):∀a b:List Cs,shl (nJ (n+1)) (a.map .str) (b.map .str)=true
 | [],_=>by simp [shl]
 | _::_,[]=>by simp [shl]
 | x::a,y::b=>by rw [OZ,OZ,shl,GL n a b];rfl
theorem JM (f g:Fc):nJ 8 (fT f) (fT g)=true:=by
 show(nJ 7 (.str f.k) (.str g.k) && (shl (nJ 6) (f.as.map .str) (g.as.map .str) && true))=true;rw [GL 5];rfl
theorem tA {fs:List Fc} (h:fs.length<900):bE (fs.map fT) :=
 ⟨by simpa using h,by simp [Dg],.inl (by simp [m6,fT]),by simp [JM]⟩
theorem kd_p (p:Cs × Cs):kd 8 (pT p)=true:=rfl
theorem GN {fs:List (Cs × Cs)} (h:fs.length<900):bE (fs.map pT) :=
 ⟨by simpa using h,by simp [kd_p],.inl (by simp [m6,pT]),by simp [show ∀a b,nJ 8 (pT a) (pT b)=true from fun _ _=>rfl]⟩
theorem lE (fs:List Fc):∃gs:List Fc,gs.Perm fs/\eB (fs.map fT)=gs.map fT :=
 oF (fI fun y hy=>by obtain⟨f,_,rfl⟩:=OT.mp hy;exact Dg f).1 fs rfl
theorem wz (fs:List (Cs × Cs)):∃gs:List (Cs × Cs),gs.Perm fs/\eB (fs.map pT)=gs.map pT :=
 oF (fI fun y hy=>by obtain⟨f,_,rfl⟩:=OT.mp hy;exact kd_p f).1 fs rfl
theorem Dh {x:T} {ys:List T} {L:Live} (hx:vw L x=.lst ys) (h:bE ys) (hl:(eB ys).length<=lim):dO true [x] L=.ok (.lst (eB ys)) L:=by
 unfold dO;simp only [hx];unfold bE at h;rw [aI h,eE,aI hl];rfl
theorem zy {ys:List T} (h:bE ys):(eB ys).length<=lim:=by
 rw [(fI (OD.mp h.2.1)).1.length_eq];have:=h.1;unfold lim;omega
theorem mS {x:T} {ys:List T} {L:Live} (hx:vw L x=.lst ys) (h:bE ys):dO true [x] L=.ok (.lst (eB ys)) L:=Dh hx h (zy h)
theorem Av (fs:List Fc):∃gs:List Fc,gs.Nodup/\(∀f,f∈gs↔f∈fs)/\gs.length<=fs.length/\m7 (fs.map fT)=gs.map fT:=by
 induction fs with
 | nil=>exact⟨[],Rk,fun _=>Vm,OR _,rfl⟩
 | cons f fs ih =>
  obtain⟨gs,h1,h2,h3,h4⟩:=ih;rw [OZ,m7];by_cases h:f∈fs
  ·rw [if_pos (O9 h)]
   exact⟨gs,h1,fun g=>by rw [h2,OS];exact⟨.inr,fun z=>z.elim (fun e=>by rw [e];exact h) id⟩,by simp;omega,h4⟩
  ·rw [if_neg fun z=>by obtain⟨g,hg,e⟩:=OT.mp z;exact h (by rw [<- mR e];exact hg)]
   exact⟨f::gs,Qc.mpr ⟨fun z=>h ((h2 f).mp z),h1⟩,fun g=>by rw [OS,OS,h2],by simp;omega,by rw [h4];rfl⟩
theorem zz (fs:List Fc) (h:fs.length<900) (L:Live):∃gs:List Fc,gs.Nodup/\(∀f,f∈gs↔f∈fs)/\eB (m7 (fs.map fT))=gs.map fT/\jv true [.lst (fs.map fT)] L=.ok (.lst (gs.map fT)) L:=by
 refine Dy fun G n9=>?_
 obtain⟨g1,a1,a2,a3,a4⟩:=Av fs;obtain⟨g2,b1,b2⟩:=lE g1;refine n9 ?_;clear n9;refine⟨g2,b1.nodup_iff.mpr a1,fun f=>(b1.mem_iff).trans (a2 f),by rw [a4];exact b2,?_⟩;show bD _ _=_
 rw [aI ⟨tA h,by simp [GK],OD.mpr fun x hx=>by obtain⟨f,_,rfl⟩:=OT.mp hx;rfl⟩,a4,b2,eE,aI (by rw [Lm9,b1.length_eq];unfold lim;omega)];rfl
theorem zA (st:bq) (h:st.length<900) (L:Live):∃gs:List (Cs × Cs),gs.Perm st/\eB (st.map pT)=gs.map pT/\iw true [.ref L.length] (cT st::L)=.ok (.lst (gs.map pT)) (cT st::L):=by
 obtain⟨gs,b1,b2⟩:=wz st;refine⟨gs,b1,b2,?_⟩;have e:av (st.map fun p=>(T.str p.1,T.str p.2))=st.map pT:=by unfold av;rw [Py];rfl
 unfold iw cT;simp only [fH,dq,de];rw [e,aI (GN h),b2,eE,aI (by rw [Lm9,b1.length_eq];unfold lim;omega)];rfl
theorem Di {st:bq} {n:Cs} (h:(st.map (·.1)).Nodup):((dM st n).map (·.1)).Nodup:=by
 unfold dM;split
 ·split
  ·exact h
  ·rename_i hn
   rw [Pe,Q2];exact⟨h,by simp,fun a ha b hb e=>hn (by simp at hb;rw [<- hb,<- e];exact ha)⟩
 ·exact h
theorem sj:∀(ns:List Cs) {st:bq},(st.map (·.1)).Nodup->((fj st ns).map (·.1)).Nodup
 | [],_,h=>h
 | n::ns,_,h=>sj ns (Di h)
theorem zB {st:bq} {p q:Cs} (h:(st.map (·.1)).Nodup):((bM st p q).map (·.1)).Nodup:=by
 unfold bM;split
 ·exact h
 ·rw [Bk.gj];exact h
theorem Dj {st:bq} {n:Cs} (h:tH st) (hn:iA n):tH (dM st n):=by
 unfold dM;split
 ·split
  ·exact h
  ·intro e he
   rcases OU.mp he with he|he
   ·exact h e he
   ·rw [OK.mp he];exact⟨hn,hn⟩
 ·exact h
theorem wA:∀(ns:List Cs) {st:bq},tH st->(∀n∈ns,iA n)->tH (fj st ns)
 | [],_,h,_=>h
 | n::ns,_,h,hn=>wA ns (Dj h (hn n OI)) fun m hm=>hn m (OG _ hm)
theorem oG (st:bq) (p q:Cs):(bM st p q).length=st.length:=by unfold bM;split <;> simp
theorem wB:∀(av:List (Cs × Cs)) {st bR:bq},bA st av=some bR->bR.length<=st.length+2 * av.length
 | [],st,bR,h=>by cases h;simp
 | (a,b)::r,st,bR,h=>by
  unfold bA at h;split at h
  ·cases h
  ·have:=wB r h
   rw [oG] at this;have z:=i7 [a,b] st
   simp at z ⊢;omega
noncomputable def df (bp bl:List Fc) (st:bq):T:=.tup [.tup (bp.map fT),.tup (bl.map fT),.tup (st.map pT),.bl false]
theorem mT {st:bq} {x:T} {L:Live} (hx:wo L x st) {fs:List Fc} (hf:∀f∈fs,f.as.length<=1000) (hl:fs.length<=1000) {s:SI} {aM:List (Option Nat)} {φ:Fr} {k:Live->Prop} {r:R T} (hc:comp true s aM (.one 1) yes (aq bV [v 2,v 1]) φ L=r) (hs:s φ L=.ok (fs.map fT,k) L) (hk:k L)
  (h1:∀y,((inner aM φ).set 1 (some y))[1]?=some (some y)) (h2:∀y,((inner aM φ).set 1 (some y))[2]?=some (some x)):r=.ok (.lst ((fs.map (wr st)).map fT)) L:=by
 rw [bF hc fs fT (fun f=>fT (wr st f)) hs hk (by unfold lim;omega) fun f Hw=>by
  simp only [Ak,qh,qg,DY,h1,h2,Rc,cF,aZ];exact tK hx f (hf f Hw),Py]
 rfl
noncomputable def bw (ks:List Kd) (fs:List Fc):List Fc:=fs.filter fun f=>!decide (f.k∈(ks.filter (·.l)).map (·.n))
noncomputable def bG (ks:List Kd) (fs:List Fc):List Fc:=fs.filter fun f=>decide (f.k∈(ks.filter (·.l)).map (·.n))
structure Mv (ks:List Kd) (bp bl:List Fc) (st:bq) (ts fs:List Fc) (av:List (Cs × Cs)):Prop where
 hn:(ks.map (·.n)).Nodup
 hk:ks.length<=100
 ft:∀f∈ts,aK ks f
 ff:∀f∈fs,aK ks f
 tl:∀f∈ts,f.k∉(ks.filter (·.l)).map (·.n)
 nd:(st.map (·.1)).Nodup
 sm:tH st
 K5:st.length<=10
 z1:bp.length+fs.length<900
 z2:bl.length+fs.length<900
 z3:ts.length<=10
 z4:fs.length<=4
 z5:av.length<=4
 a4:∀f∈(bp++bl)++(ts++fs),f.as.length<=4
 nf:∀f∈fs,∀a∈f.as,iA a
 np:∀p∈av,iA p.1/\iA p.2
 cnt:∀f,(ts.map (wr st)).count f<=bp.count f
noncomputable def wC (ks:List Kd) (bp bl:List Fc) (st:bq) (ts fs:List Fc) (av:List (Cs × Cs)) (r:T):Prop :=
 (bA (fj st (fs.flatMap (·.as))) av=none/\r=ay) \/
 ∃bR left P Q S,bA (fj st (fs.flatMap (·.as))) av=some bR/\(∀f,left.count f=bp.count f - (ts.map (wr st)).count f)/\P.Perm (lw av bR left++bw ks (fs.map (wr bR)))/\eB ((lw av bR left++bw ks (fs.map (wr bR))).map fT)=P.map fT /\
  Q.Nodup/\(∀f,f∈Q↔f∈lw av bR bl++bG ks (fs.map (wr bR)))/\eB (m7 ((lw av bR bl++bG ks (fs.map (wr bR))).map fT))=Q.map fT/\S.Perm bR/\eB (bR.map pT)=S.map pT/\r=df P Q S
theorem wF {l:List Fc} (h:∀g∈l,g.as.length<=4):(l.flatMap (·.as)).length<=4 * l.length:=by
 induction l with
 | nil=>exact OR _
 | cons a l ih =>
  have h1:=h a OI;have h2:=ih fun g hg=>h g (OG _ hg)
  rw [List.flatMap_cons,OL,OP];omega
theorem wG {av:List (Cs × Cs)} {st:bq} {l:List Fc}:(lw av st l).length=l.length:=by
 unfold lw;split
 ·rfl
 ·rw [Lm9]
theorem zC (ks:List Kd) (bp bl:List Fc) (st:bq) (ts fs:List Fc) (av:List (Cs × Cs)) (M:Mv ks bp bl st ts fs av) (L:Live) :
  ∃r,wC ks bp bl st ts fs av r/\dT [.lst (ks.map kT),df bp bl st,.lst (ts.map fT),.lst (fs.map fT),.lst (av.map pT)] L=.ok r L:=by
 have hk':=M.hk;have h3:=M.z3
 have h4:=M.z4;have h5:=M.z5
 have Oj:=M.K5;have aB:∀f∈bp,f.as.length<=4:=fun f hf=>M.a4 f (Pu _ (Pu _ hf))
 have aL:∀f∈bl,f.as.length<=4:=fun f hf=>M.a4 f (Pu _ (Pn _ hf))
 have aT:∀f∈ts,f.as.length<=4:=fun f hf=>M.a4 f (Pn _ (Pu _ hf))
 have aF:∀f∈fs,f.as.length<=4:=fun f hf=>M.a4 f (Pn _ (Pn _ hf))
 have z1:=M.z1;have z2:=M.z2
 unfold dT df;simp_arith [cP ks ts (.lst (ks.map kT)) L rfl M.hn (by omega) M.ft,cP ks fs (.lst (ks.map kT)) L rfl M.hn (by omega) M.ff];rw [dZ rfl ks kT (·.l) (fun k=>.str k.n) (by exact rfl) (by exact aJ) (by unfold lim;omega) (by exact fun b _=>by simp_arith) (by exact fun b _ _=>by simp_arith)];have Hs:((ks.filter (·.l)).map fun k=>T.str k.n)=((ks.filter (·.l)).map (·.n)).map T.str:=by simp
 have hd:jb [.tup (st.map pT)] L=.ok (.ref L.length) (cT st::L):=wm (g:=fun p:Cs × Cs=>p.1) (h:=fun p=>.str p.2) st M.nd (by omega) L;simp_arith [Hs,fU _ ts M.tl,hd];rw [mT (fs:=ts) (st:=st) (x:=.ref L.length) (.inr ⟨_,rfl,dq⟩) (fun f hf=>Pq (aT f hf) (by decide)) (by omega) rfl (by exact rfl) (by exact aJ) (by exact fun _=>rfl) (by exact fun _=>rfl)];obtain⟨left,JN,ho⟩:=GJ bp (ts.map (wr st)) (by omega) (by rw [Lm9];omega) M.cnt (cT st::L);have Ol:left.length<=bp.length:=Bk.ly left bp fun f=>by rw [JN];exact Nat.sub_le _ _
 have hle:∀f∈left,f.as.length<=4:=fun f hf=>aB f (Bk.zx JN hf)
 simp_arith [ho];generalize ho:forL _ _ _ _ _ _=o;obtain⟨o7,_,rfl⟩:=se fs fT cT (fun st f=>fj st f.as) (fun r s=>s.length+4 * r.length<=26/\∀f∈r,f∈fs) (fun z (_:Unit)=>[some (.lst (ks.map kT)),some (.tup [.tup (bp.map fT),.tup (bl.map fT),.tup (st.map pT),.bl false]),some (.lst (ts.map fT)),some (.lst (fs.map fT)),some (.lst (av.map pT)),some (.lst (((ks.filter (·.l)).map (·.n)).map T.str)),some (.ref L.length),z,some (.lst (left.map fT)),none,none,none,none]) (w:=()) ho (fun _=>sv) (fun _ _ _=>rfl) ⟨by omega,fun _ h=>h⟩ fun f r s _ h=>by
  have Hw:=h.2 f OI;have h1:=i7 f.as s
  have h2:=h.1;have h3:=aF f Hw
  rw [OP] at h2;exact⟨⟨by omega,fun g hg=>h.2 g (OG _ hg)⟩,(),by simp_arith [wq (L:=L) s f.as (.tup (f.as.map .str)) rfl (fun _ z=>by cases z) (fun n hn=>(d4 (M.nf f Hw n hn)).1) (by omega)]⟩
 rw [show fs.foldl (fun st f=>fj st f.as) st=fj st (fs.flatMap (·.as)) from List.foldl_flatMap.symm];have hz:=wF aF
 have Oo:=i7 (fs.flatMap (·.as)) st;have n0:=sj (fs.flatMap (·.as)) M.nd
 have m0:=wA (fs.flatMap (·.as)) M.sm fun n hn=>by obtain⟨f,hf,h⟩:=UC.mp hn;exact M.nf f hf n h
 unfold wC;generalize fj st (fs.flatMap (·.as))=S0 at *
 simp_arith;generalize ho:forL _ _ _ _ _ _=o;have h:=dH ho av pT (fun q φ L'=>∃done cA o9,done++q=av/\bA cA q=bA S0 av/\(cA.map (·.1)).Nodup/\tH cA/\cA.length<=26+2 * done.length/\φ=[some (.lst (ks.map kT)),some (.tup [.tup (bp.map fT),.tup (bl.map fT),.tup (st.map pT),.bl false]),some (.lst (ts.map fT)),some (.lst (fs.map fT)),some (.lst (av.map pT)),some (.lst (((ks.filter (·.l)).map (·.n)).map T.str)),some (.ref L.length),o7,some (.lst (left.map fT)),o9,none,none,none]/\L'=cT cA::L)
  (fun o=>(bA S0 av=none/\∃c,o=.rt ay (c::L))\/∃bR o9,bA S0 av=some bR/\(bR.map (·.1)).Nodup/\tH bR/\bR.length<=40/\o=.nx [some (.lst (ks.map kT)),some (.tup [.tup (bp.map fT),.tup (bl.map fT),.tup (st.map pT),.bl false]),some (.lst (ts.map fT)),some (.lst (fs.map fT)),some (.lst (av.map pT)),some (.lst (((ks.filter (·.l)).map (·.n)).map T.str)),some (.ref L.length),o7,some (.lst (left.map fT)),o9,none,none,none] (cT bR::L)) rfl ⟨[],S0,none,rfl,rfl,n0,m0,by omega,rfl,rfl⟩ (fun _ _ eJ eP p q φ L' hh=>by
   obtain⟨done,cA,o9,e1,e2,n1,m1,l1,rfl,rfl⟩:=hh;obtain⟨pa,pb⟩:=p;refine⟨sv,_,rfl,?_⟩;have hp:=M.np (pa,pb) (e1 ▸ Pn _ OI)
   have hd:done.length+1<=av.length:=by rw [<- e1,OL,OP];omega
   have n2:=sj [pa,pb] n1;have m2:=wA [pa,pb] m1 fun n hn=>all2 (P:=iA) hp.1 hp.2 hn
   have l2:=i7 [pa,pb] cA;simp only [OP,Pz] at l2;have k1:=wq (L:=L) cA [pa,pb] (pT (pa,pb)) rfl (fun _ z=>by cases z) (fun n hn=>all2 (P:=fun n=>1<=n.length) (d4 hp.1).1 (d4 hp.2).1 hn) (by simp only [OP,Pz];omega)
   have k2:=C8 (fj cA [pa,pb]) pa pb n2 (by omega) (d4 (m2.bJ hp.1)).1 (d4 (m2.bJ hp.2)).1 L;have e3:bA cA ((pa,pb)::q)=if dG (bJ (fj cA [pa,pb]) pa) (bJ (fj cA [pa,pb]) pb) then none else bA (bM (fj cA [pa,pb]) (bJ (fj cA [pa,pb]) pa) (bJ (fj cA [pa,pb]) pb)) q:=rfl
   rw [e3] at e2;by_cases ht:dG (bJ (fj cA [pa,pb]) pa) (bJ (fj cA [pa,pb]) pb)
   ·rw [if_pos ht] at k2 e2
    simp_arith [eJ,eP,k1,k2];exact .inl ⟨e2.symm,_,rfl⟩
   ·rw [if_neg ht] at k2 e2
    simp_arith [eJ,eP,k1,k2];exact⟨done++[(pa,pb)],_,_,by rw [PR];exact e1,e2,zB n2,m2.tell (m2.bJ hp.1) (m2.bJ hp.2),by rw [oG,OL,PM];omega,rfl,rfl⟩)
  fun φ L' hh=>by
   obtain⟨done,cA,o9,e1,e2,n1,m1,l1,rfl,rfl⟩:=hh;rw [QD] at e1;subst e1;exact⟨sv,.inr ⟨cA,o9,e2.symm,n1,m1,by omega,rfl⟩⟩
 rcases h with⟨hN,c,rfl⟩|⟨bR,o9,hS,n2,m2,l2,rfl⟩
 ·simp_arith
  exact⟨ay,.inl ⟨hN,rfl⟩,ic rfl⟩
 have JL:dC true [.tup (bl.map fT)] (cT bR::L)=.ok (.lst (bl.map fT)) (cT bR::L):=by
  show eE true (bl.map fT) _=_;rw [eE,aI (by simp;unfold lim;omega)];rfl
 have tX:wo (cT bR::L) (.ref L.length) bR:=.inr ⟨_,rfl,dq⟩;refine Dy fun G n9=>?_
 obtain⟨oH,vn⟩:∃x,x=lw av bR left:=⟨_,rfl⟩;obtain⟨JO,xB⟩:∃x,x=lw av bR bl:=⟨_,rfl⟩;have w1:oH.length=left.length:=vn ▸ wG
 have w2:JO.length=bl.length:=xB ▸ wG;have Oq:=i5 (p:=fun f:Fc=>!decide (f.k∈(ks.filter (·.l)).map (·.n))) (l:=fs.map (wr bR)) (n:=fs.length) (by simp)
 have Ot:=i5 (p:=fun f:Fc=>decide (f.k∈(ks.filter (·.l)).map (·.n))) (l:=fs.map (wr bR)) (n:=fs.length) (by simp);obtain⟨P,Ng,K6⟩:=lE (oH++bw ks (fs.map (wr bR)));obtain⟨Q,Nh,Ni,Nj,K7⟩:=zz (JO++bG ks (fs.map (wr bR))) (by rw [OL];unfold bG;omega) (cT bR::L);obtain⟨S,hS1,hS2,Nk⟩:=zA bR (by omega) L;have K8:dO true [.lst ((oH++bw ks (fs.map (wr bR))).map fT)] (cT bR::L)=.ok (.lst (P.map fT)) (cT bR::L):=by
  rw [mS (ys:=(oH++bw ks (fs.map (wr bR))).map fT) rfl (tA (by rw [OL];unfold bw;omega)),K6]
 refine n9 ?_;clear n9;refine⟨df P Q S,.inr ⟨bR,left,P,Q,S,hS,JN,vn ▸ Ng,vn ▸ K6,Nh,xB ▸ Ni,xB ▸ Nj,hS1,hS2,rfl⟩,?_⟩;have fin:fin L (df P Q S) (cT bR::L)=.ok (df P Q S) L:=ic (by unfold df;rw [lt,iQ,iQ,iQ,iQ,iQ,iB dP,iB dP,iB wi];rfl)
 simp_arith [JL];apply twice
 ·intro key
  by_cases D3:av=[]
  ·have e1:lw av bR left=left:=if_pos D3
   have e2:lw av bR bl=bl:=if_pos D3;simp_arith [show decide ((0:Int)<(av.length:Int))=false by rw [D3];rfl];rw [show T.lst (left.map fT)=.lst (oH.map fT) by rw [vn,e1],show T.lst (bl.map fT)=.lst (JO.map fT) by rw [xB,e2]];exact key
  ·have e1:lw av bR left=left.map (wr bR):=if_neg D3
   have e2:lw av bR bl=bl.map (wr bR):=if_neg D3;have hpl:(0:Int)<(av.length:Int):=by
    have:=Q5.mpr D3;omega
   simp_arith [hpl,decide_true];rw [mT (fs:=left) tX (fun f hf=>Pq (hle f hf) (by decide)) (by omega) rfl (by exact rfl) (by exact sv) (by exact fun _=>rfl) (by exact fun _=>rfl)];simp_arith;rw [mT (fs:=bl) tX (fun f hf=>Pq (aL f hf) (by decide)) (by omega) rfl (by exact rfl) (by exact sv) (by exact fun _=>rfl) (by exact fun _=>rfl)];simp_arith;rw [<- e1,<- e2,<- vn,<- xB];exact key
 rw [mT (fs:=fs) tX (fun f hf=>Pq (aF f hf) (by decide)) (by omega) rfl (by exact rfl) (by exact sv) (by exact fun _=>rfl) (by exact fun _=>rfl)];simp_arith;rw [dZ rfl (fs.map (wr bR)) fT (fun f=>!decide (f.k∈(ks.filter (·.l)).map (·.n))) fT (by exact rfl) (by exact sv) (by simp;unfold lim;omega) (by exact fun b _=>by simp_arith) (by exact fun b _ _=>by simp_arith)];simp_all_arith [<- Pe];rw [dZ rfl (fs.map (wr bR)) fT (fun f=>decide (f.k∈(ks.filter (·.l)).map (·.n))) fT (by exact rfl) (by exact sv) (by simp;unfold lim;omega) (by exact fun b _=>by simp_arith) (by exact fun b _ _=>by simp_arith)];simp_all_arith [<- Pe];unfold bw at K8;unfold bG at K7;simp_arith [K8,K7,Nk];exact fin
theorem Dk (ns:List Int) (k:Nat) (L:Live):ai [.lst (ns.map .int),.int k] L=.ok (.int (ns.getD k 0)) L:=by
 unfold ai;by_cases h:(k:Int)<ns.length
 ·have e:(ns.map T.int)[k]?=some (.int (ns.getD k 0)):=by
   have:k<ns.length:=by omega
   simp [Gd9,this]
  simp_arith [h,decide_true,bf e]
 ·have e0:ns.getD k 0=0:=by simp [Gd9,Rf (show ns.length<=k by omega)]
  simp_arith [h,decide_false,e0]
noncomputable def GO (k:Nat):Int:=[48271,69621,16807,40692,30269,62089,45991].getD k 0
theorem lF (c:Int) (k:Nat) (hk:k<7):∃n:Nat,n<999983/\∀L,au [.int c,.int k] L=.ok (.int (n:Nat)) L:=by
 have h0:=To ((c % 1000003+31 * k) * GO k) (show(999983:Int)≠0 by decide);have h1:=Sl ((c % 1000003+31 * k) * GO k) (show(0:Int)<999983 by decide)
 refine⟨((c % 1000003+31 * k) * GO k % 999983).toNat,by omega,fun L=>?_⟩;rw [Int.toNat_of_nonneg h0];have a0:=To c (show(1000003:Int)≠0 by decide)
 have a1:=Sl c (show(0:Int)<1000003 by decide);have e:ix (.lst [.int 48271,.int 69621,.int 16807,.int 40692,.int 30269,.int 62089,.int 45991]) (.int ((k:Int) % 7)) L=.ok (.int (GO k)) L:=by
  rw [show(k:Int) % 7=(k:Nat) by omega];refine bf ?_;show(([48271,69621,16807,40692,30269,62089,45991]:List Int).map T.int)[k]?=_
  rw [Pb,(by decide +kernel:∀k<7,([48271,69621,16807,40692,30269,62089,45991]:List Int)[k]?=some (GO k)) k hk];rfl
 unfold au;simp_arith [show(7:Nat)<=lim by decide,aI (show 7<=lim by decide),e,show(-18446744073709551616:Int)<c % 1000003+31 * k by omega,show c % 1000003+31 * k<18446744073709551616 by omega]
theorem wH {z:Cs} {i:Int} {L:Live} (h0:0<=i) (h:i<=z.length):oX true (.str z) none (some i) L=.ok (.str (z.take i.toNat)) L:=if_pos ⟨h0,h⟩
theorem GP {z:Cs} {i j:Int} {L:Live} (h0:0<=i) (h:i<=j) (h2:j<=z.length):oX true (.str z) (some i) (some j) L=.ok (.str ((z.drop i.toNat).take (j - i).toNat)) L:=if_pos ⟨h0,h,h2⟩
abbrev lG:Cs:=S "abcdefghijklmnopqrstuvwxyz0123456789ABCDEFGHIJKLMNOPQRSTUVWXYZ"
theorem qr:(∀c∈lG,jM c=true)/\lG.Nodup:=by decide +kernel
theorem K9:∀l:Cs,jn [] (l.map fun c=>[c])=l
 | []=>rfl
 | [a]=>rfl
 | a::b::l=>by
  show [a]++[]++jn [] ((b::l).map fun c=>[c])=_;rw [K9 (b::l)];rfl
theorem wI (n:Nat):M.upTo 0 n=(Pa n).map fun k=>.int (k:Nat):=by
 show(Pa n).map _=_;apply Qv;intro k _;simp
theorem GQ {φ:Fr} {L:Live} {b:SE} {n:Nat} (hb:b φ L=.ok (.int n) L) (h:n<=1000):ni (c (.int 0)) b φ L=.ok ((Pa n).map fun k=>T.int (k:Nat),fun _=>True) L:=by
 rw [Gk (c (.int 0)) b φ L (i:=0) (j:=n) rfl hb ⟨by unfold tS;constructor <;> omega,Gm (by omega)⟩];rw [show((n:Int) - 0).toNat=n by omega,wI]
noncomputable def tj (n j:Nat):Nat:=lG.getD ((n / (j+1)+j * j) % 62) 0
noncomputable def tl (n:Nat):Cs:=(Pa 11).map (tj n)
theorem qt (n:Nat):(tl n).length=11:=by simp [tl]
theorem wJ (i:Nat):lG.getD (i % 62) 0∈lG:=(by decide +kernel:∀i<62,lG.getD i 0∈lG) _ (PZ _ (by decide))
theorem sq (n:Nat):∀x∈tl n,jM x=true:=fun x hx=>by
 obtain⟨j,_,rfl⟩:=OT.mp hx;exact qr.1 _ (wJ _)
theorem qv {φ:Fr} {L:Live} (n:Nat) (h:n<999983) (h4:(inner [none,none,some 4,some 3] φ)=[none,none,some (.int n),some (.str lG)]) {r:R T}
  (hc:comp true (ni (c (.int 0)) (c (.int 11))) [none,none,some 4,some 3] (.one 1) yes (b2 (v 3) (b2 (b2 (b2 (v 2) (b2 (v 1) (c (.int 1)) (aw true .Add)) (aw true .FloorDiv)) (b2 (v 1) (v 1) (aw true .Mult)) (aw true .Add)) (c (.int 62)) (aw true .Mod)) ix) φ L=r):r=.ok (.lst ((tl n).map fun c=>.str [c])) L:=by
 rw [bF hc (Pa 11) (fun k=>T.int (k:Nat)) (fun j=>.str [tj n j]) (GQ (n:=11) rfl (by decide)) trivial (by decide) fun j hj=>?_]
 ·unfold tl
  rw [Py];rfl
 ·have hj:=PF.mp hj
  rw [h4];have e:((n:Int) / ((j+1:Nat):Int)+(j:Int) * j) % 62=(((n / (j+1)+j * j) % 62:Nat):Int):=rfl
  simp_arith [show(0:Int)<((j+1:Nat):Int) by omega,show((j+1:Nat):Int)<1073741824 by omega,show(-18446744073709551616:Int)<(j:Nat) by omega,show((j:Nat):Int)<18446744073709551616 by omega,e];exact jL (by omega) (show(((n / (j+1)+j * j) % 62:Nat):Int)<62 by omega)
theorem nZ {h:Nat} {t:Cs} (h1:jM h=true) (h2:∀x∈t,jM x=true) (h3:t.length<=11):cB (h::t)=true:=by
 unfold cB;simp only [OP,PK,ON,decide_eq_true_eq,OD];exact⟨by omega,by omega,h1,h2⟩
theorem qw {α:Type} {f:Nat->α} {n:Nat} (h:∀i<n,∀j<n,f i=f j->i=j):((Pa n).map f).Nodup:=by
 rw [List.Nodup,SK];exact List.nodup_range.imp_of_mem fun {i j} hi hj ne e=>ne (h i (PF.mp hi) j (PF.mp hj) e)
theorem getD_in {l:Cs} {i:Nat} (h:i<l.length):l.getD i 0∈l:=by
 rw [Gd9,Ge9 h];exact OV h
theorem sr {l:Cs} (nd:l.Nodup) {i j:Nat} (hi:i<l.length) (hj:j<l.length) (e:l.getD i 0=l.getD j 0):i=j:=by
 rw [Gd9,Ge9 hi,Gd9,Ge9 hj] at e;exact(List.getElem_inj nd).mp e
theorem sx {a i j m:Nat} (hm:5<m) (hi:i<5) (hj:j<5) (h:(a+i) % m=(a+j) % m):i=j:=by
 have key:∀{i j},i<5->j<5->i<=j->(a+i) % m=(a+j) % m->i=j:=fun {i j} hi hj gu h=>by
  have z:=Nat.sub_mod_eq_zero_of_mod_eq h.symm;rw [SY (by omega)] at z;omega
 rcases Nat.le_total i j with z|z
 ·exact key hi hj z h
 ·exact(key hj hi z h.symm).symm
section
variable {fi t:Cs} {s k n z a:Nat} {L:Live}
theorem Nl (hs:s<fi.length) (hk:k<=t.length) (ht:t.length<=100):b2 (b2 (v 2) (v 3) ix) (sl true (v 4) none (some (v 1))) (aw true .Add) [none,some (.int (k:Nat)),some (.str fi),some (.int (s:Nat)),some (.str t)] L=.ok (.str (fi.getD s 0::t.take k)) L:=by
 simp_arith [jL (s:=fi) (i:=((s:Nat):Int)) (L:=L) (by omega) (by omega)];rw [wH (i:=((k:Nat):Int)) (by omega) (by omega)];simp_all_arith [Qf]
theorem Nm (hz:z<=t.length) (h0:0<fi.length) (ht:t.length<=100):b2 (b2 (v 2) (b2 (b2 (v 4) (v 1) (aw true .Add)) (aq cW [v 2]) (aw true .Mod)) ix) (sl true (v 5) none (some (v 3))) (aw true .Add) [none,some (.int (k:Nat)),some (.str fi),some (.int (z:Nat)),some (.int (s:Nat)),some (.str t)] L=.ok (.str (fi.getD ((s+k) % fi.length) 0::t.take z)) L:=by
 have e:(((s:Nat):Int)+(k:Nat)) % (fi.length:Int)=(((s+k) % fi.length:Nat):Int):=rfl;have m4:(s+k) % fi.length<fi.length:=PZ _ h0
 simp_arith [show(0:Int)<(fi.length:Int) by omega,e,jL (s:=fi) (i:=(((s+k) % fi.length:Nat):Int)) (L:=L) (by omega) (by omega)];rw [wH (i:=((z:Nat):Int)) (by omega) (by omega)];simp_all_arith [Qf]
theorem Np:b2 (v 3) (b2 (b2 (b2 (v 2) (c (.int 7)) (aw true .FloorDiv)) (v 1) (aw true .Add)) (c (.int 62)) (aw true .Mod)) ix [none,some (.int (k:Nat)),some (.int (n:Nat)),some (.str lG)] L=.ok (.str [lG.getD ((n / 7+k) % 62) 0]) L:=by
 have e:((n:Int) / 7+(k:Nat)) % 62=(((n / 7+k) % 62:Nat):Int):=rfl;simp_arith [e];exact jL (by omega) (show(((n / 7+k) % 62:Nat):Int)<62 by omega)
theorem Nq {x:Nat} (hs:s<fi.length) (ha:a<=z) (hz:z<=t.length) (ht:t.length<=100):b2 (b2 (b2 (b2 (v 3) (v 5) ix) (sl true (v 6) none (some (v 2))) (aw true .Add)) (v 1) (aw true .Add)) (sl true (v 6) (some (v 2)) (some (v 4))) (aw true .Add) [none,some (.str [x]),some (.int (a:Nat)),some (.str fi),some (.int (z:Nat)),some (.int (s:Nat)),some (.str t)] L=.ok (.str (fi.getD s 0::(t.take a++x::(t.drop a).take (z - a)))) L:=by
 simp_arith [jL (s:=fi) (i:=((s:Nat):Int)) (L:=L) (by omega) (by omega)];rw [wH (i:=((a:Nat):Int)) (by omega) (by omega)];simp_all_arith [Qf];rw [GP (i:=((a:Nat):Int)) (j:=((z:Nat):Int)) (by omega) (by omega) (by omega)];simp_all_arith [Qf,show(((z:Nat):Int) - (a:Nat)).toNat=z - a by omega];simp
end
theorem mU (ci:Int) (many:Nat) (hm:many<=5) (fi:Cs) (nd:fi.Nodup) (Ou:26<=fi.length) (Ov:fi.length<=36) (Ej:∀x∈fi,jM x=true) :
  ∃l:List Cs,l.length=many/\l.Nodup/\(∀x∈l,cB x=true/\x.headD 0∈fi)/\∀L,aN [.int ci,.int many,.str fi] L=.ok (.lst (l.map .str)) L:=by
 obtain⟨n,hn,oJ⟩:=lF ci 0 (by decide);have hx:∀L,au [.int ci,.int 0] L=.ok (.int (n:Nat)) L:=oJ
 clear oJ;have hs:n / 5 % fi.length<fi.length:=PZ _ (by omega)
 have e1:(n:Int) / 5 % (fi.length:Int)=((n / 5 % fi.length:Nat):Int):=rfl;have e3:(n:Int) % 3=((n % 3:Nat):Int):=rfl
 have jt:∀L,da (.str []) [.lst ((tl n).map fun c=>.str [c])] L=.ok (.str (tl n)) L:=fun L=>by
  have z:=wa (sep:=[]) (zs:=(tl n).map fun c=>[c]) (L:=L) (by rw [Py,show(tl n).map ((·.length) ∘ fun c=>[c])=(tl n).map (fun _=>1) from rfl,List.map_const',List.sum_replicate_nat,qt,Lm9,qt];decide);rw [K9,Py] at z;exact z
 have Nr:=qt n;have wK:∀(l:List Cs) (L:Live),fin L (.lst (l.map .str)) L=.ok (.lst (l.map .str)) L:=fun l L=>fin_same (by rw [lt];exact fS l)
 have lm:(Pa many).length<=lim:=by rw [Q3];unfold lim;omega
 have rn:∀{φ:Fr} {L:Live} {b:SE},b φ L=.ok (.int many) L->ni (c (.int 0)) b φ L=.ok ((Pa many).map fun k=>T.int (k:Nat),fun _=>True) L:=fun h=>GQ h (by omega)
 have mm:∀f:Nat->Cs,(Pa many).map (fun k=>T.str (f k))=((Pa many).map f).map .str:=fun f=>by rw [Py];rfl
 unfold aN;by_cases c0:n % 3=0
 ·refine⟨(Pa many).map fun k=>fi.getD (n / 5 % fi.length) 0::(tl n).take k,by simp,qw fun i hi j hj e=>?_,fun x hx=>?_,fun L=>?_⟩
  ·have:=congrArg QB (Te e).2
   simp only [Qd,Nr] at this;omega
  ·obtain⟨k,_,rfl⟩:=OT.mp hx
   exact⟨nZ (Ej _ (getD_in hs)) (fun y hy=>sq n y (QH hy)) (by simp;omega),getD_in hs⟩
  ·simp_arith [hx,e1,show(0:Int)<(fi.length:Int) by omega]
   rw [qv n hn rfl rfl];simp_arith [jt,e3,c0,show((((0:Nat):Int)) == 0)=true from rfl];rw [bF rfl (Pa many) (fun k=>T.int (k:Nat)) (fun k=>.str (fi.getD (n / 5 % fi.length) 0::(tl n).take k)) (by exact rn rfl) (by exact trivial) lm (by exact fun k hk=>Nl hs (by have:=PF.mp hk;omega) (by omega))];simp_arith [mm];exact wK _ _
 by_cases c1:n % 3=1
 ·have hz:n / 3 % 12<12:=PZ _ (by decide)
  have Nt:(n:Int) / 3 % 12=((n / 3 % 12:Nat):Int):=rfl;have hk':∀k,(n / 5 % fi.length+k) % fi.length<fi.length:=fun k=>PZ _ (by omega)
  refine⟨(Pa many).map fun k=>fi.getD ((n / 5 % fi.length+k) % fi.length) 0::(tl n).take (n / 3 % 12),by simp,qw fun i hi j hj e=>?_,fun x hx=>?_,fun L=>?_⟩
  ·exact sx (by omega) (by omega) (by omega) (sr nd (hk' i) (hk' j) (Te e).1)
  ·obtain⟨k,_,rfl⟩:=OT.mp hx
   exact⟨nZ (Ej _ (getD_in (hk' k))) (fun y hy=>sq n y (QH hy)) (by simp;omega),getD_in (hk' k)⟩
  ·simp_arith [hx,e1,show(0:Int)<(fi.length:Int) by omega]
   rw [qv n hn rfl rfl];simp_arith [jt,e3,c1,show((((1:Nat):Int)) == 0)=false from rfl,show((((1:Nat):Int)) == 1)=true from rfl,Nt];rw [bF rfl (Pa many) (fun k=>T.int (k:Nat)) (fun k=>.str (fi.getD ((n / 5 % fi.length+k) % fi.length) 0::(tl n).take (n / 3 % 12))) (by exact rn rfl) (by exact trivial) lm (by exact fun k hk=>Nm (by omega) (by omega) (by omega))];simp_arith [mm];exact wK _ _
 ·have hz:n / 3 % 11<11:=PZ _ (by decide)
  have Nu:(n:Int) / 3 % 11=((n / 3 % 11:Nat):Int):=rfl;have ha:n / 33 % (n / 3 % 11+1)<n / 3 % 11+1:=PZ _ (by omega)
  have ea:(n:Int) / 33 % (((n / 3 % 11+1:Nat)):Int)=((n / 33 % (n / 3 % 11+1):Nat):Int):=rfl;generalize n / 3 % 11=sz at *
  generalize n / 33 % (sz+1)=q at *
  refine⟨(Pa many).map fun k=>fi.getD (n / 5 % fi.length) 0::((tl n).take q++lG.getD ((n / 7+k) % 62) 0::((tl n).drop q).take (sz - q)),by simp,qw fun i hi j hj e=>?_,fun x hx=>?_,fun L=>?_⟩
  ·have e:=List.append_cancel_left (Te e).2
   exact sx (by decide) (by omega) (by omega) (sr qr.2 (PZ _ (by decide)) (PZ _ (by decide)) (Te e).1)
  ·obtain⟨k,_,rfl⟩:=OT.mp hx
   refine⟨nZ (Ej _ (getD_in hs)) (fun y hy=>?_) (by simp;omega),getD_in hs⟩;rcases OU.mp hy with hy|hy
   ·exact sq n y (QH hy)
   ·rcases OS.mp hy with rfl|hy
    ·exact qr.1 _ (wJ _)
    ·exact sq n y (U8 (QH hy))
  ·have n3:n % 3=2:=by omega
   simp_arith [hx,e1,show(0:Int)<(fi.length:Int) by omega];rw [qv n hn rfl rfl];simp_arith [jt,e3,n3,show((((2:Nat):Int)) == 0)=false from rfl,show((((2:Nat):Int)) == 1)=false from rfl,Nu,show(0:Int)<((sz+1:Nat):Int) by omega,ea];rw [bF rfl (Pa many) (fun k=>T.int (k:Nat)) (fun k=>.str [lG.getD ((n / 7+k) % 62) 0]) (by exact rn rfl) (by exact trivial) lm (by exact fun k hk=>Np)];simp_arith;rw [bF rfl (Pa many) (fun k=>T.str [lG.getD ((n / 7+k) % 62) 0]) (fun k=>.str (fi.getD (n / 5 % fi.length) 0::((tl n).take q++lG.getD ((n / 7+k) % 62) 0::((tl n).drop q).take (sz - q)))) (by exact rfl) (by exact sv) lm (by exact fun k hk=>Nq hs (by omega) (by omega) (by omega))];simp_arith [mm];exact wK _ _
theorem GR:∀c∈lG,SJ ⟨#[c]⟩=decide (c∈iy.cps.toList):=by decide +kernel
theorem Aw {c:Nat} (h:jM c=true):c∈lG:=by
 unfold jM at h;simp only [Qh,decide_eq_true_eq] at h;have h1:∀c∈qi.cps.toList,c∈lG:=by decide +kernel
 have h2:∀c∈iy.cps.toList,c∈lG:=by decide +kernel
 have h3:∀c∈CV.cps.toList,c∈lG:=by decide +kernel
 exact h.elim (h1 c) fun h=>h.elim (h2 c) (h3 c)
theorem Nv {x:Cs} (h:cB x=true):iA x:=by
 refine⟨h,?_⟩;cases x with
 | nil=>exact absurd (eX h).1 (by simp)
 | cons a r=>exact GR a (Aw (Bk.Am h a OI))
theorem wL (ci:Int):∃l:List Cs,l.length=4/\l.Nodup/\(∀x∈l,cB x=true)/\∀L,cN [.int ci,.int 4] L=.ok (.lst (l.map .str)) L:=by
 obtain⟨l,h1,h2,h3,h4⟩:=mU ci 4 (by decide) (S "abcdefghijklmnopqrstuvwxyz") (by decide +kernel) (by decide +kernel) (by decide +kernel) (by decide +kernel);refine⟨l,h1,h2,fun x hx=>(h3 x hx).1,fun L=>?_⟩;have h4:∀L,aN [.int ci,.int 4,.str (S "abcdefghijklmnopqrstuvwxyz")] L=.ok (.lst (l.map .str)) L:=h4
 unfold cN;simp_arith [h4];exact fin_same (by rw [lt];exact fS l)
theorem zD (ci:Int):∃l:List Cs,l.length=5/\l.Nodup/\(∀x∈l,cB x=true/\great x=true)/\∀L,dz [.int ci,.int 5] L=.ok (.lst (l.map .str)) L:=by
 obtain⟨l,h1,h2,h3,h4⟩:=mU ci 5 (by decide) (S "ABCDEFGHIJKLMNOPQRSTUVWXYZ") (by decide +kernel) (by decide +kernel) (by decide +kernel) (by decide +kernel);refine⟨l,h1,h2,fun x hx=>⟨(h3 x hx).1,decide_eq_true (h3 x hx).2⟩,fun L=>?_⟩;have h4:∀L,aN [.int ci,.int 5,.str (S "ABCDEFGHIJKLMNOPQRSTUVWXYZ")] L=.ok (.lst (l.map .str)) L:=h4
 unfold dz;simp_arith [h4];exact fin_same (by rw [lt];exact fS l)
theorem zE (ci:Int):∃l:List Cs,l.length=2/\(∀x∈l,cB x=true/\great x=false)/\∀L,dA [.int ci,.int 2] L=.ok (.lst (l.map .str)) L:=by
 obtain⟨l,h1,h2,h3,h4⟩:=mU ci 2 (by decide) (S "abcdefghijklmnopqrstuvwxyz0123456789") (by decide +kernel) (by decide +kernel) (by decide +kernel) (by decide +kernel);refine⟨l,h1,fun x hx=>⟨(h3 x hx).1,decide_eq_false ((by decide +kernel:∀c∈S "abcdefghijklmnopqrstuvwxyz0123456789",c∉iy.cps.toList) _ (h3 x hx).2)⟩,fun L=>?_⟩;have h4:∀L,aN [.int ci,.int 2,.str (S "abcdefghijklmnopqrstuvwxyz0123456789")] L=.ok (.lst (l.map .str)) L:=h4
 unfold dA;simp_arith [h4];exact fin_same (by rw [lt];exact fS l)
noncomputable def qx (i:Nat):List Bool:=[[false,true,false,true],[true,false,false,true],[false,false,true,true],[true,false,true,false]].getD i []
noncomputable def JP (i:Nat):Nat:=[0,1,2,2,1,3].getD i 0
theorem Dl:∀i<4,(qx i).length=4:=by decide
theorem GS:∀i<6,JP i<=3:=by decide
theorem zF (ci:Int):∃ks:List Kd,ks.length=4/\(ks.map (·.n)).Nodup/\(∀k∈ks,cB k.n=true/\k.c<=3)/\∀L,dw [.int ci,.lst [.int 0,.int 1,.int 2,.int 2,.int 1,.int 3]] L=.ok (.lst (ks.map kT)) L:=by
 obtain⟨l,h1,h2,h3,h4⟩:=wL ci;obtain⟨n,hn,oJ⟩:=lF ci 1 (by decide);have hx:∀L,au [.int ci,.int 1] L=.ok (.int (n:Nat)) L:=oJ
 clear oJ;have n4:n % 4<4:=PZ _ (by decide)
 have e4:(n:Int) % 4=((n % 4:Nat):Int):=rfl;have rl:=Dl _ n4
 let kd:Nat->Kd:=fun k=>⟨l.getD k [],JP (n / (3 * k+5) % 6),(qx (n % 4)).getD k false⟩
 have hl:((Pa 4).map kd).map (·.n)=l:=by
  rw [Py];apply Qe (by simp [h1]);intro i a b;simp [kd,Gd9,b]
 refine⟨(Pa 4).map kd,by simp,by rw [hl];exact h2,fun k hk=>?_,fun L=>?_⟩
 ·obtain⟨i,hi,rfl⟩:=OT.mp hk
  have hi:=PF.mp hi;refine⟨h3 _ ?_,GS _ (PZ _ (by decide))⟩;have:i<l.length:=by omega
  show l.getD i []∈l;rw [Gd9,Ge9 this];exact OV this
 ·have er:ix (.lst [.lst [.bl false,.bl true,.bl false,.bl true],.lst [.bl true,.bl false,.bl false,.bl true],.lst [.bl false,.bl false,.bl true,.bl true],.lst [.bl true,.bl false,.bl true,.bl false]]) (.int ((n % 4:Nat):Int)) L=.ok (.lst ((qx (n % 4)).map .bl)) L:=by
   generalize n % 4=j at n4;refine bf ?_
   match j,n4 with
   | 0,_=>rfl
   | 1,_=>rfl
   | 2,_=>rfl
   | 3,_=>rfl
  have es:∀i<6,ix (.lst [.int 0,.int 1,.int 2,.int 2,.int 1,.int 3]) (.int ((i:Nat):Int)) L=.ok (.int (JP i:Nat)) L:=fun i hi=>by
   refine bf ?_
   match i,hi with
   | 0,_=>rfl
   | 1,_=>rfl
   | 2,_=>rfl
   | 3,_=>rfl
   | 4,_=>rfl
   | 5,_=>rfl
  have el:∀k<4,tup [b2 (v 5) (v 1) ix,b2 (v 4) (b2 (b2 (v 3) (b2 (b2 (c (.int 3)) (v 1) (aw true .Mult)) (c (.int 5)) (aw true .Add)) (aw true .FloorDiv)) (aq cW [v 4]) (aw true .Mod)) ix,b2 (v 2) (v 1) ix] [none,some (.int (k:Nat)),some (.lst ((qx (n % 4)).map .bl)),some (.int (n:Nat)),some (.lst [.int 0,.int 1,.int 2,.int 2,.int 1,.int 3]),some (.lst (l.map .str))] L=.ok (kT (kd k)) L:=fun k hk=>by
   have i1:ix (.lst (l.map .str)) (.int (k:Nat)) L=.ok (.str (l.getD k [])) L:=bf (by simp [Gd9,show k<l.length by omega]);have i2:ix (.lst ((qx (n % 4)).map .bl)) (.int (k:Nat)) L=.ok (.bl ((qx (n % 4)).getD k false)) L:=bf (by simp [Gd9,show k<(qx (n % 4)).length by omega])
   have e:(n:Int) / (3 * (k:Nat)+5) % ((6:Nat):Int)=((n / (3 * k+5) % 6:Nat):Int):=rfl;simp_arith [show(-18446744073709551616:Int)<3 by decide,show(0:Int)<3 * (k:Nat)+5 by omega,show(3 * ((k:Nat):Int)+5)<1073741824 by omega,i1,i2,show(0:Int)<((6:Nat):Int) by decide,e,es _ (PZ (n / (3 * k+5)) (show 0<6 by decide))];rfl
  unfold dw;simp_arith [h4,hx,e4,er];rw [bF rfl (Pa 4) (fun k=>T.int (k:Nat)) (fun k=>kT (kd k)) (by exact GQ (n:=4) rfl (by decide)) (by exact trivial) (by rw [Q3];decide) (by exact fun k hk=>el k (PF.mp hk))];simp_arith;rw [show(Pa 4).map (fun k=>kT (kd k))=((Pa 4).map kd).map kT by rw [Py];rfl];exact fin_same (dY F7)
theorem FF {ks:List Kd} {k:Kd} (hk:k∈ks) {as:List Cs} (h:as.length=k.c):aK ks ⟨k.n,as⟩:=⟨k,hk,rfl,h⟩
theorem wM (ks:List Kd) (nm:List Cs) (ci:Int) (hk:ks.length=4) (hc:∀k∈ks,k.c<=3) (hm:nm.length=7) (L:Live):∃f:Fc,aK ks f/\f.as.length<=3/\(∀a∈f.as,a∈nm)/\cU [.lst (ks.map kT),.lst (nm.map .str),.int ci] L=.ok (fT f) L:=by
 obtain⟨n,hn,oJ⟩:=lF ci 2 (by decide);have hx:∀L,au [.int ci,.int 2] L=.ok (.int (n:Nat)) L:=oJ
 clear oJ;have n4:n % 4<ks.length:=by omega
 have e4:(n:Int) % (ks.length:Int)=((n % 4:Nat):Int):=by rw [hk];rfl
 have ik:ix (.lst (ks.map kT)) (.int ((n % 4:Nat):Int)) L=.ok (kT ks[n % 4]) L:=bf (by simp [n4]);have La:ks[n % 4]∈ks:=OV n4
 have Ow:=hc _ La;generalize ks[n % 4]=k at *
 have Nx:∀(q:Nat) (L:Live),ix (.lst (nm.map .str)) (.int ((q % 7:Nat):Int)) L=.ok (.str (nm.getD (q % 7) [])) L:=fun q L=>bf (by simp [Gd9,show q % 7<nm.length by omega])
 have JQ:∀q:Nat,nm.getD (q % 7) []∈nm:=fun q=>by
  have:q % 7<nm.length:=by omega
  rw [Gd9,Ge9 this];exact OV this
 unfold cU;simp_arith [hx,e4,show(0:Int)<(ks.length:Int) by omega,ik];rw [GQ (n:=k.c) (by simp_arith) (by omega)];simp_arith;generalize ho:forL _ _ _ _ _ _=o;have h:=dH ho (Pa k.c) (fun k=>T.int (k:Nat)) (fun r φ L'=>∃(acc:List Cs) (q:Nat) (o6:Option T),acc.length+r.length=k.c/\(∀a∈acc,a∈nm)/\(∀j∈r,j<3)/\φ=[some (.lst (ks.map kT)),some (.lst (nm.map .str)),some (.int ci),some (.int (q:Nat)),some (kT k),some (.ref L.length),o6]/\L'=.lst (acc.map .str)::L)
  (fun o=>∃(acc:List Cs) (q:Nat) (o6:Option T),acc.length=k.c/\(∀a∈acc,a∈nm)/\o=.nx [some (.lst (ks.map kT)),some (.lst (nm.map .str)),some (.int ci),some (.int (q:Nat)),some (kT k),some (.ref L.length),o6] (.lst (acc.map .str)::L)) rfl ⟨[],n / 5,none,by simp,fun a z=>(by cases z),fun j hj=>by have:=PF.mp hj;omega,rfl,rfl⟩ (fun _ _ eJ eP j r φ L' hh=>by
   obtain⟨acc,q,o6,l1,m1,j3,rfl,rfl⟩:=hh;refine⟨trivial,_,rfl,?_⟩;have hj:=j3 j OI
   have e7:(q:Int) % (nm.length:Int)=((q % 7:Nat):Int):=by rw [hm];rfl
   have ed:(q:Int) / (nm.length:Int)+977 * (j:Nat)=((q / 7+977 * j:Nat):Int):=by rw [hm];rfl
   rw [OP] at l1;simp_arith [eJ,eP,e7,show(0:Int)<(nm.length:Int) by omega,show(nm.length:Int)<1073741824 by omega,Nx,show acc.length<lim by unfold lim;omega,ed,dJ];exact⟨acc++[nm.getD (q % 7) []],_,_,by simp;omega,fun a ha=>(OU.mp ha).elim (m1 a) fun z=>by rw [OK.mp z];exact JQ q,fun i hi=>j3 i (OG _ hi),rfl,rfl⟩) fun φ L' hh=>by
   obtain⟨acc,q,o6,l1,m1,_,rfl,rfl⟩:=hh;exact⟨trivial,acc,q,o6,by simpa using l1,m1,rfl⟩
 obtain⟨acc,q,o6,h1,h2,rfl⟩:=h;refine⟨⟨k.n,acc⟩,FF La h1,by show acc.length<=3;omega,h2,?_⟩;simp_arith;exact ic (dP _ ⟨k.n,acc⟩)
abbrev cu (A:List Cs):T:=.lst (A.map .str)
noncomputable def mV (A:List Cs):List Cs:=A.filter fun n=>!great n
theorem Dm (ks:List Cs):(dS ks).Nodup/\∀k,k∈dS ks↔k∈ks:=by
 have key:∀(l acc:List Cs),acc.Nodup->(l.foldl pL acc).Nodup/\∀u,u∈l.foldl pL acc↔u∈acc\/u∈l:=by
  intro l;induction l with
  | nil=>intro acc h;exact⟨h,fun u=>by simp⟩
  | cons t r ih =>
   intro acc h;have hn:(pL acc t).Nodup:=by
    unfold pL;split
    ·exact h
    ·rename_i hm
     rw [Q2];exact⟨h,by simp,fun a h1 b h2 e=>by rw [OK.mp h2] at e;subst e;exact hm h1⟩
   have hmem:∀u,u∈pL acc t↔u∈acc\/u=t:=fun u=>by
    unfold pL;split
    ·rename_i hm
     exact⟨.inl,fun z=>z.elim id fun e=>e ▸ hm⟩
    ·rw [OU,OK]
   have z:=ih (pL acc t) hn;refine⟨z.1,fun u=>?_⟩;show u∈r.foldl pL (pL acc t)↔_
   rw [z.2 u,hmem,OS,or_assoc]
 have z:=key ks [] Rk;exact⟨z.1,fun u=>by rw [show dS ks=ks.foldl pL [] from rfl,z.2 u];simp⟩
noncomputable def dg (cl:List (List Cs)):Bool:=cl.any fun one=>decide (1<(dS (mV one)).length)
theorem oK (one:List Cs):1<(dS (mV one)).length↔¬ Un.lA great one:=by
 obtain⟨nd,hm⟩:=Dm (mV one);constructor
 ·intro h hw
  match hd:dS (mV one),h with
  | x::y::r,_ =>
   rw [hd] at nd hm;have ha':=Pl.mp ((hm x).mp (OI ..))
   have hb':=Pl.mp ((hm y).mp (OG _ (OI ..)));have e:=hw x ha'.1 y hb'.1 (by simpa using ha'.2) (by simpa using hb'.2)
   subst e;rw [Qc] at nd;exact nd.1 (OI ..)
 ·intro h
  refine Qr fun bT=>h fun x hx y hy gx gy=>?_
  have hx':x∈dS (mV one):=(hm _).mpr (Pl.mpr ⟨hx,by rw [gx];rfl⟩);have hy':y∈dS (mV one):=(hm _).mpr (Pl.mpr ⟨hy,by rw [gy];rfl⟩)
  match hd:dS (mV one),bT,hx',hy' with
  | [],_,z,_=>cases z
  | [k],_,z,z2=>exact(OK.mp z).trans (OK.mp z2).symm
  | _::_::_,z,_,_=>simp at z
theorem jS (cl:List (List Cs)):dg cl=true↔Un.mM great cl:=by
 unfold dg Un.mM;rw [QT];constructor
 ·rintro⟨one,h1,h2⟩
  exact⟨one,h1,(oK one).mp (of_decide_eq_true h2)⟩
 ·rintro⟨one,h1,h2⟩
  exact⟨one,h1,decide_eq_true ((oK one).mpr h2)⟩
noncomputable def Dp (A:List Cs):Nat:=argBest (fun i j=>decide (A.getD i []<A.getD j [])) (A.length - 1)
noncomputable def oL (A:List Cs):Cs:=match mV A with
 | w::_=>w
 | []=>A.getD (Dp A) []
noncomputable def aA (cl:List (List Cs)) (x:Cs):Cs:=match cl.find? fun A=>decide (x∈A) with
 | some A=>oL A
 | none=>x
theorem ord:Un.Ord fN:=⟨fun a=>by rw [sg];exact decide_eq_false (List.lt_irrefl _),fun a b c h1 h2=>by
 rw [sg,decide_eq_true_eq] at *
 exact List.lt_trans h1 h2,fun a b h1 h2=>by
 rw [sg,decide_eq_false_iff_not] at h1 h2;by_cases e:a=b
 ·exact e
 ·exact((rJ e).elim h1 h2).elim⟩
theorem wN (A:List Cs):∀n,argBest (fun i j=>decide (A.getD i []<A.getD j [])) n<=n/\∀i,i<=n->fN (A.getD i []) (A.getD (argBest (fun i j=>decide (A.getD i []<A.getD j [])) n) [])=false
 | 0=>⟨OR _,fun i hi=>by
   obtain rfl:i=0:=by omega
   exact ord.pF _⟩
 | n+1=>by
  obtain⟨h1,h2⟩:=wN A n;unfold argBest;generalize argBest (fun i j=>decide (A.getD i []<A.getD j [])) n=k at h1 h2 ⊢;cases hb:decide (A.getD (n+1) []<A.getD k []) with
  | true =>
   rw [if_pos rfl];refine⟨OR _,fun i hi=>?_⟩;by_cases e:i=n+1
   ·rw [e];exact ord.pF _
   ·cases hx:fN (A.getD i []) (A.getD (n+1) []) with
    | false=>rfl
    | true =>
     have z:=h2 i (by omega);rw [ord.tr _ _ _ hx hb] at z;cases z
  | false =>
   rw [if_neg (by simp)];refine⟨by omega,fun i hi=>?_⟩;by_cases e:i=n+1
   ·rw [e];exact hb
   ·exact h2 i (by omega)
theorem Dq {A:List Cs} (h:A≠[]):Un.fh great fN A (oL A):=by
 have hp:=Q5.mpr h;unfold oL;split
 ·rename_i w r e
  have hw:=Pl.mp (show w∈mV A by rw [e];exact OI);exact⟨hw.1,.inl (by simpa using hw.2)⟩
 ·rename_i e
  obtain⟨b1,b2⟩:=wN A (A.length - 1);have hb:Dp A<A.length:=by unfold Dp;omega
  have e1:A.getD (Dp A) []=A[Dp A]:=by rw [Gd9,Ge9 hb];rfl
  refine⟨by rw [e1];exact OV hb,.inr ⟨fun x hx=>?_,fun x hx=>?_⟩⟩
  ·cases g:great x with
   | true=>rfl
   | false=>have z:x∈mV A:=Pl.mpr ⟨hx,by rw [g];rfl⟩;rw [e] at z;cases z
  ·obtain⟨i,hi,rfl⟩:=QI.mp hx
   have z:=b2 i (by omega);rw [show A.getD i []=A[i] by rw [Gd9,Ge9 hi];rfl] at z;exact z
theorem wO (cl:List (List Cs)) (n:Cs):Un.cls cl n=(cl.find? fun one=>decide (n∈one)).getD [n]:=by
 unfold Un.cls;congr 2;funext one;exact decide_eq_decide.mpr Vm
theorem zG {cl:List (List Cs)} {x:Cs} {A:List Cs} (h:cl.find? (fun A=>decide (x∈A))=some A):x∈A/\A∈cl:=⟨by have:=Tr h;simpa using this,QN h⟩
theorem zH (cl:List (List Cs)) (x:Cs):Un.fh great fN (Un.cls cl x) (aA cl x):=by
 rw [wO];unfold aA;cases h:cl.find? fun A=>decide (x∈A) with
 | none =>
  show Un.fh great fN [x] x;refine⟨OK.mpr rfl,?_⟩;by_cases g:great x=false
  ·exact .inl g
  ·exact .inr ⟨fun y hy=>by rw [OK.mp hy];simpa using g,fun y hy=>by rw [OK.mp hy];exact ord.pF _⟩
 | some A=>exact Dq fun(z:A=[])=>by have:=(zG h).1;rw [z] at this;cases this
theorem qy {ρ:Cs->Cs} {cl:List (List Cs)} (s:Un.Std great fN ρ cl):aA cl=ρ:=funext fun x=>Un.fh.uniq ord (fun _=>Vm) (s.whole x) (zH cl x) (s.rp x)
structure oM (cl:List (List Cs)):Prop where
 nk:∀A∈cl,∀a∈A,iA a
 l1:cl.length<=200
 l2:∀A∈cl,A.length<=200
theorem GU {a:Cs} (h:iA a) {i:Nat} {φ:Fr} {L:Live} (hi:φ[i]?=some (some (.str a))):aY aH (vi i 0) [] φ L=.ok (.bl (great a)) L:=by
 simp only [v8,GA,hi,Rc,cF,aZ,lD (d4 h).1,xG,aH,Rb];show R.ok (T.bl (SJ ⟨#[a.headD 0]⟩)) L=_
 rw [h.2]
theorem Ax {A:List Cs} (h:∀a∈A,iA a) (hl:A.length<=200) {φ:Fr} {i:Nat} {L:Live} {r:R T} (hi:φ[i]?=some (some (cu A))) (hc:comp true (src (v i)) [none,none] (.one 1) (eG (tv (aY (aH) (vi 1 0) []))) (v 1) φ L=r):r=.ok (.lst ((mV A).map .str)) L:=by
 rw [dZ (k:=stays (cu A) L) hc A .str (fun n=>!great n) .str (by simp only [r7,DY,hi,Rc,cF,aZ,items,vw]) sv (by unfold lim;omega) (fun a ha=>by simp only [vY,FO,GU (h a ha) (show((inner [none,none] φ).set 1 (some (T.str a)))[1]?=some (some (.str a)) from rfl)];rfl) fun a _ _=>rfl];rfl
theorem GV {A:List Cs} (h:A≠[]) (L:Live):iE [cu A] L=.ok (.str (A.getD (Dp A) [])) L:=by
 unfold iE;simp only [vw];rw [mapM_map (f:=oU) (g:=T.str) (h:=id) (fun _=>rfl) A,Ux];simp only [];rw [aI h];rfl
theorem i8 {cl:List (List Cs)} (h:oM cl) (x:Cs) (L:Live):aD [.lst (cl.map cu),.str x] L=.ok (.str (aA cl x)) L:=by
 unfold aD;simp_arith;generalize ho:forL _ _ _ _ _ _=o;have hh:=dH ho cl cu (fun r φ L'=>L'=L/\(∀A∈r,A∈cl)/\r.find? (fun A=>decide (x∈A))=cl.find? (fun A=>decide (x∈A))/\∃o2,φ=[some (.lst (cl.map cu)),some (.str x),o2,none])
  (fun o=>(∃A,cl.find? (fun A=>decide (x∈A))=some A/\o=.rt (.str (oL A)) L)\/(cl.find? (fun A=>decide (x∈A))=none/\∃o2,o=.nx [some (.lst (cl.map cu)),some (.str x),o2,none] L)) rfl ⟨rfl,fun _ h=>h,rfl,none,rfl⟩ (fun _ _ eJ eP A r φ L' hh=>by
   obtain⟨rfl,h1,h2,o2,rfl⟩:=hh;have hA:=h1 A OI
   refine⟨sv,_,rfl,?_⟩;rw [Qs] at h2;cases e:decide (x∈A) with
   | true =>
    rw [e] at h2;have ne:A≠[]:=fun z=>by have:=of_decide_eq_true e;rw [z] at this;cases this
    simp_arith [eJ,eP,e];rw [Ax (h.nk A hA) (h.l2 A hA) (by exact rfl) rfl];cases ew:mV A with
    | nil =>
     have er:oL A=A.getD (Dp A) []:=by unfold oL;rw [ew]
     simp_arith [GV ne,show decide (((0:Nat):Int) > 0)=false from rfl];exact .inl ⟨A,h2.symm,by rw [er]⟩
    | cons w q =>
     have er:oL A=w:=by unfold oL;rw [ew]
     simp_arith [show decide (((q.length+1:Nat):Int) > 0)=true from decide_eq_true (by omega)];exact .inl ⟨A,h2.symm,by rw [er]⟩
   | false =>
    rw [e] at h2;simp_arith [eJ,eP,e];exact⟨trivial,fun B hB=>h1 B (OG _ hB),h2,_,rfl⟩) fun φ L' hh=>by
   obtain⟨rfl,h1,h2,o2,rfl⟩:=hh;exact⟨sv,.inr ⟨h2.symm,o2,rfl⟩⟩
 unfold aA;rcases hh with⟨A,e,rfl⟩|⟨e,o2,rfl⟩
 ·rw [e]
  simp_arith
 ·rw [e]
  simp_arith
theorem wQ {cl:List (List Cs)} (h:oM cl) (L:Live):cV [.lst (cl.map cu)] L=.ok (.bl (dg cl)) L:=by
 unfold cV;simp_arith;generalize ho:forL _ _ _ _ _ _=o;have hh:=dH ho cl cu (fun r φ L'=>L'=L/\(∀A∈r,A∈cl)/\dg r=dg cl/\∃o2,φ=[some (.lst (cl.map cu)),o2])
  (fun o=>(dg cl=true/\o=.rt (.bl true) L)\/(dg cl=false/\∃o2,o=.nx [some (.lst (cl.map cu)),o2] L)) rfl ⟨rfl,fun _ h=>h,rfl,none,rfl⟩ (fun _ _ eJ eP A r φ L' hh=>by
   obtain⟨rfl,h1,h2,o2,rfl⟩:=hh;have hA:=h1 A OI
   refine⟨sv,_,rfl,?_⟩;have e0:dg (A::r)=(decide (1<(dS (mV A)).length) || dg r):=rfl
   rw [e0] at h2;have lw:(mV A).length<=200:=Pq (P6 _ _) (h.l2 A hA)
   have hs:kJ [.lst ((mV A).map .str)] L'=.ok (.int (dS (mV A)).length) L':=by
    unfold kJ;simp only [vw];rw [mapM_map (f:=oU) (g:=T.str) (h:=id) (fun _=>rfl),Ux];simp only [];rw [aI (by omega)]
   simp_arith [eJ,eP];rw [Ax (h.nk A hA) (h.l2 A hA) (by exact rfl) rfl];cases e:decide (1<(dS (mV A)).length) with
   | true =>
    rw [e] at h2;simp_arith [hs,show decide ((((dS (mV A)).length:Nat):Int) > 1)=true from decide_eq_true (by have:=of_decide_eq_true e;omega)];exact .inl ⟨h2.symm,trivial⟩
   | false =>
    rw [e] at h2;simp_arith [hs,show decide ((((dS (mV A)).length:Nat):Int) > 1)=false from decide_eq_false (by have:=of_decide_eq_false e;omega)];rw [eJ];exact⟨rfl,fun B hB=>h1 B (OG _ hB),h2,_,rfl⟩) fun φ L' hh=>by
   obtain⟨rfl,h1,h2,o2,rfl⟩:=hh;exact⟨sv,.inr ⟨h2.symm,o2,rfl⟩⟩
 rcases hh with⟨e,rfl⟩|⟨e,o2,rfl⟩
 ·rw [e]
  simp_arith
 ·rw [e]
  simp_arith
theorem wR (ns kn:List Cs):(ax ns kn).length<=kn.length+ns.length:=Bk.tE ns kn
theorem sy (kn ns:List Cs) (L:Live) (hn:∀n∈ns,iA n) (hl:kn.length+ns.length<=1000):bB [.lst (kn.map .str),.tup (ns.map .str)] L=.ok (.lst ((ax ns kn).map .str)) L:=by
 unfold bB;have hb:dC false [.lst (kn.map .str)] L=.ok (.ref L.length) (.lst (kn.map .str)::L):=by
  show eE false (kn.map .str) L=_;rw [eE,aI (by simp;unfold lim;omega)];rfl
 simp_arith [hb];generalize ho:forL _ _ _ _ _ _=o;obtain⟨z,w,rfl⟩:=se (i:=3) (s:=kn) ns T.str (fun a:List Cs=>T.lst (a.map .str)) (fun acc n=>cS n acc) (fun r acc=>acc.length+r.length<=1000/\∀n∈r,iA n) (fun z (_:Unit)=>[some (.lst (kn.map .str)),some (.tup (ns.map .str)),some (.ref L.length),z]) (w:=()) ho (fun _=>sv) (fun _ _ _=>rfl) ⟨hl,hn⟩ fun n r acc _ h=>by
  have h1:=h.1;rw [OP] at h1;have nk:=h.2 n OI
  have hlen:=Bk.oo n acc;refine⟨⟨by omega,fun m hm=>h.2 m (OG _ hm)⟩,(),?_⟩;have iv:mY (.str n) (.ref L.length) (.lst (acc.map .str)::L)=.ok (decide (n∈acc)) (.lst (acc.map .str)::L):=JJ (by simp only [fH,dq,de])
  simp_arith [lD (d4 nk).1,aH,pM,show SJ ⟨[n.headD 0].toArray⟩=great n from nk.2];unfold cS;cases g:great n with
  | false=>simp_arith
  | true =>
   by_cases hm:n∈acc
   ·simp_arith [iv,hm,decide_true]
   ·simp_arith [iv,hm,decide_false,show acc.length<lim by unfold lim;omega,dJ]
 simp_arith;rw [show List.foldl (fun acc n=>cS n acc) kn ns=ax ns kn from rfl];exact CY (by rw [lt];exact fS _)
theorem zI (ks:List Kd) (f:Fc) (L:Live) (nd:(ks.map (·.n)).Nodup) (hf:aK ks f):du [.lst (ks.map kT),fT f] L=.ok (.bl (decide (f.k∈lr ks))) L:=by
 unfold du;simp_arith;generalize ho:forL _ _ _ _ _ _=o;obtain⟨k,hk,e1,_⟩:=hf;have key:decide (f.k∈lr ks)=k.l:=by
  rw [QC,decide_eq_true_eq];unfold lr;constructor
  ·intro z
   obtain⟨j,hj,e⟩:=OT.mp z;obtain⟨h1,h2⟩:=Pl.mp hj;rw [Bk.qn nd hk h1 (e1.trans e.symm)];exact h2
  ·intro z
   exact OT.mpr ⟨k,Pl.mpr ⟨hk,z⟩,e1⟩
 have h:=dH ho ks kT (fun r φ L'=>L'=L/\k∈r/\(∀j∈r,j∈ks)/\∃o2,φ=[some (.lst (ks.map kT)),some (fT f),o2]) (fun o=>o=.rt (.bl k.l) L) rfl ⟨rfl,hk,fun _ h=>h,none,rfl⟩ (fun _ _ eJ eP j r φ L' hh=>by
   obtain⟨rfl,h1,h2,o2,rfl⟩:=hh;refine⟨sv,_,rfl,?_⟩;by_cases e:j.n=f.k
   ·obtain rfl:j=k:=Bk.qn nd (h2 j OI) hk (e.trans e1.symm)
    simp_arith [eJ,eP,e,beq_self_eq_true]
   ·simp_arith [eJ,eP,show(j.n == f.k)=false from beq_eq_false_iff_ne.mpr e]
    refine⟨trivial,?_,fun i hi=>h2 i (OG _ hi),_,rfl⟩;rcases OS.mp h1 with rfl|z
    ·exact absurd e1 e
    ·exact z) fun φ L' hh=>by
   obtain⟨_,h1,_⟩:=hh;cases h1
 subst h;simp_arith [key]
theorem wU (cl:List (List Cs)) (a b:Cs) (L:Live) (h1:cl.length<=200) (h2:∀A∈cl,A.length<=200):cK [.lst (cl.map cu),pT (a,b)] L=.ok (.lst ((Un.merged cl a b).map cu)) L:=by
 unfold cK;simp_arith;generalize ho:forL _ _ _ _ _ _=o;have h:=dH ho cl cu (fun r φ L'=>∃B R o4,Un.go a b r (B,R)=Un.go a b cl ([a,b],[])/\(∀A∈r,A.length<=200)/\B.length+200 * r.length<=50000/\R.length+r.length<=300/\φ=[some (.lst (cl.map cu)),some (pT (a,b)),some (cu B),some (.ref L.length),o4]/\L'=.lst (R.map cu)::L)
  (fun o=>∃B R o4,(B,R)=Un.go a b cl ([a,b],[])/\R.length<=300/\o=.nx [some (.lst (cl.map cu)),some (pT (a,b)),some (cu B),some (.ref L.length),o4] (.lst (R.map cu)::L)) rfl ⟨[a,b],[],none,rfl,h2,by simp;omega,by simp;omega,rfl,rfl⟩ (fun _ _ eJ eP A r φ L' hh=>by
   obtain⟨B,R,o4,e,q1,q2,q3,rfl,rfl⟩:=hh;have hA:=q1 A OI
   rw [OP] at q2 q3;refine⟨sv,_,rfl,?_⟩;by_cases c:a∈A\/b∈A
   ·have e2:Un.go a b (A::r) (B,R)=Un.go a b r (B++A.filter (fun x=>decide (x∉B)),R):=by
     conv=>lhs;unfold Un.go
     rw [if_pos c];exact congrArg (fun l=>Un.go a b r (B++l,R)) (List.filter_congr fun x _=>decide_eq_decide.mpr Vm)
    rw [e2] at e;have fl:(A.filter fun x=>decide (x∉B)).length<=A.length:=P6 _ _
    have nx:∃B' R' Ny,Un.go a b r (B',R')=Un.go a b cl ([a,b],[])/\(∀A∈r,A.length<=200)/\B'.length+200 * r.length<=50000/\R'.length+r.length<=300/\[some (T.lst (cl.map cu)),some (pT (a,b)),some (cu (B++A.filter fun x=>decide (x∉B))),some (T.ref L.length),some (cu A)]=[some (.lst (cl.map cu)),some (pT (a,b)),some (cu B'),some (.ref L.length),Ny]/\T.lst (R.map cu)::L=.lst (R'.map cu)::L:=⟨_,R,_,e,fun C hC=>q1 C (OG _ hC),by rw [OL];omega,by omega,rfl,rfl⟩;have ct:comp true (src (v 4)) [none,none,some 2] (.one 1) (tv (b2 (v 1) (v 2) (cmp .NotIn))) (v 1) [some (T.lst (cl.map cu)),some (pT (a,b)),some (cu B),some (T.ref L.length),some (cu A)] (.lst (R.map cu)::L)=.ok (cu (A.filter fun x=>decide (x∉B))) (.lst (R.map cu)::L):=by
     rw [dZ (k:=stays (cu A) (.lst (R.map cu)::L)) rfl A .str (fun x=>decide (x∉B)) .str (by exact rfl) (by exact sv) (by unfold lim;omega) (by exact fun x _=>by(simp_arith;simp)) (by exact fun x _ _=>rfl)];rfl
    by_cases ca:a∈A
    ·simp_arith [eJ,eP,ca,decide_true,ct]
     rw [aI (by simp only [OL,Lm9];unfold lim;omega)];simp_arith [<- Pe,eJ];exact nx
    ·have cb:b∈A:=c.resolve_left ca
     simp_arith [eJ,eP,ca,decide_false,cb,decide_true,ct];rw [aI (by simp only [OL,Lm9];unfold lim;omega)];simp_arith [<- Pe,eJ];exact nx
   ·have e2:Un.go a b (A::r) (B,R)=Un.go a b r (B,R++[A]):=by
     conv=>lhs;unfold Un.go
     rw [if_neg c]
     try rfl
    rw [e2] at e;obtain⟨ca,cb⟩:=not_or.mp c;simp_arith [eJ,eP,ca,cb,decide_false,show R.length<lim by unfold lim;omega];exact⟨B,R++[A],_,e,fun C hC=>q1 C (OG _ hC),by omega,by rw [OL,PM];omega,rfl,by rw [Pe];rfl⟩) fun φ L' hh=>by
   obtain⟨B,R,o4,e,_,_,q3,rfl,rfl⟩:=hh;exact⟨sv,B,R,o4,e,by simpa using q3,rfl⟩
 obtain⟨B,R,o4,e,hl,rfl⟩:=h;have em:Un.merged cl a b=R++[B]:=by unfold Un.merged;rw [<- e]
 have oa:aw true .Add (.ref L.length) (.lst [cu B]) (.lst (R.map cu)::L)=.ok (.lst ((R++[B]).map cu)) (.lst (R.map cu)::L):=by
  unfold aw;simp only [fH,dq,de,vw];rw [eE,aI (by simp;unfold lim;omega),Pe];rfl
 simp_arith [oa,em];exact ic (dY fun n A=>by rw [lt];exact fS A)
noncomputable def Fz (L L':Live) (x y:T):Prop:=(lt L.length x=true/\y=x)\/∃n,x=.ref n/\L.length<=n/\at_ L' n=some y/\lt L.length y=true
theorem Fz.f {L L':Live} {x y:T} (h:Fz L L' x y) (k:Nat):eY L.length L' (k+2) x=some y:=by
 rcases h with⟨h,rfl⟩|⟨n,rfl,h1,h2,h3⟩
 ·unfold eY;rw [if_pos h]
 ·unfold eY
  rw [if_neg (by rw [lt];simp;omega)];simp only [h2];unfold eY;rw [if_pos h3]
theorem sA {L Ln:Live} {xs ys:List T} (h:Paired (Fz L (Ln++L)) xs ys):fin L (.tup xs) (Ln++L)=.ok (.tup ys) L:=by
 have e:(Ln++L).drop ((Ln++L).length - L.length)=L:=by rw [OL,Sp,TZ]
 have m:∀{xs ys:List T},Paired (Fz L (Ln++L)) xs ys->xs.mapM (eY L.length (Ln++L) 8)=some ys:=fun {xs ys} h=>by
  induction h with
  | nil=>rfl
  | cons a b ih=>rw [R2,a.f 6,ih];rfl
 unfold fin;rw [e,if_pos (ow L)];unfold eY;by_cases hl:lt L.length (.tup xs)=true
 ·rw [if_pos hl]
  have:∀{xs ys:List T},Paired (Fz L (Ln++L)) xs ys->iQ L.length xs=true->xs=ys:=fun {xs ys} h=>by
   induction h with
   | nil=>intro _;rfl
   | cons a b ih =>
    intro z;rw [iQ,ON] at z;rw [ih z.2];rcases a with⟨_,rfl⟩|⟨n,rfl,h1,_⟩
    ·rfl
    ·have:=z.1;rw [lt] at this;simp at this;omega
  rw [this h (by rw [lt] at hl;exact hl)];rfl
 ·rw [if_neg hl]
  simp only [m h];rfl
noncomputable def wf (ρ:Cs->Cs) (f:Fc):Fc:=⟨f.k,f.as.map ρ⟩
theorem Ay {cl:List (List Cs)} (h:oM cl) (f:Fc) (hf:f.as.length<=1000) (L:Live):dI [.lst (cl.map cu),fT f] L=.ok (fT (wf (aA cl) f)) L:=by
 unfold dI;simp_arith;rw [bF rfl f.as .str (fun a=>.str (aA cl a)) (by exact rfl) (by exact sv) (by unfold lim;omega) (by exact fun a _=>by simp_arith [i8 h])];simp_arith;rw [show f.as.map (fun a=>T.str (aA cl a))=(f.as.map (aA cl)).map .str by rw [Py];rfl];exact fin_same (dP _ (wf (aA cl) f))
noncomputable def dd (acc:List Fc) (f:Fc):List Fc:=if f∈acc then acc else acc++[f]
noncomputable def qz (l:List Fc):List Fc:=l.foldl dd []
theorem mW (l:List Fc):(qz l).Nodup/\(∀f,f∈qz l↔f∈l)/\(qz l).length<=l.length:=by
 have key:∀(l acc:List Fc),acc.Nodup->(l.foldl dd acc).Nodup/\(∀u,u∈l.foldl dd acc↔u∈acc\/u∈l)/\(l.foldl dd acc).length<=acc.length+l.length:=by
  intro l;induction l with
  | nil=>intro acc h;exact⟨h,fun u=>by simp,by simp⟩
  | cons t r ih =>
   intro acc h;have hn:(dd acc t).Nodup/\(dd acc t).length<=acc.length+1:=by
    unfold dd;split
    ·exact⟨h,by omega⟩
    ·rename_i hm
     rw [Q2];exact⟨⟨h,by simp,fun a h1 b h2 e=>by rw [OK.mp h2] at e;subst e;exact hm h1⟩,by simp⟩
   have hmem:∀u,u∈dd acc t↔u∈acc\/u=t:=fun u=>by
    unfold dd;split
    ·rename_i hm
     exact⟨.inl,fun z=>z.elim id fun e=>e ▸ hm⟩
    ·rw [OU,OK]
   obtain⟨z1,z2,z3⟩:=ih (dd acc t) hn.1;refine⟨z1,fun u=>?_,?_⟩
   ·show u∈r.foldl dd (dd acc t)↔_
    rw [z2 u,hmem,OS,or_assoc]
   ·show(r.foldl dd (dd acc t)).length<=_
    rw [OP];omega
 obtain⟨z1,z2,z3⟩:=key l [] Rk;exact⟨z1,fun u=>by rw [show qz l=l.foldl dd [] from rfl,z2 u];simp,by rw [show qz l=l.foldl dd [] from rfl];simpa using z3⟩
def t4 (ρ:Cs->Cs) (aj once:List Fc) (kn:List Cs):T:=.tup [.tup (eB ((aj.map (wf ρ)).map fT)),.tup (eB ((qz (once.map (wf ρ))).map fT)),.tup (eB ((kn.map fun n=>(n,ρ n)).map pT)),.bl false]
theorem qA {a b:List T} (ha:a.all (kd 8)=true) (p:a.Perm b):eB a=eB b:=by
 have hb:∀y∈b,kd 8 y=true:=fun y hy=>OD.mp ha y (p.mem_iff.mpr hy)
 obtain⟨s1,s2⟩:=fI hb;exact ju ha (s1.trans p.symm) s2
theorem Lb (l:List Fc):(l.map fT).all (kd 8)=true:=by simp [Dg]
theorem Nz (l:List (Cs × Cs)):(l.map pT).all (kd 8)=true:=by simp [kd_p]
theorem Dr (n:Nat) (ρ:Cs->Cs) (aj once:List Fc) (kn:List Cs):lt n (t4 ρ aj once kn)=true:=by
 obtain⟨P,_,e1⟩:=lE (aj.map (wf ρ));obtain⟨Q,_,e2⟩:=lE (qz (once.map (wf ρ)));obtain⟨S,_,e3⟩:=wz (kn.map fun n=>(n,ρ n));unfold t4;rw [e1,e2,e3,lt,iQ,iQ,iQ,iQ,iQ,iB dP,iB dP,iB wi];rfl
theorem Ds {cl:List (List Cs)} (h:oM cl) (aj once:List Fc) (kn:List Cs) (hb:aj.length<900) (ho:once.length<900) (hk:kn.length<900) (ha:∀f∈aj++once,f.as.length<=1000) (L:Live):dQ [.lst (aj.map fT),.lst (once.map fT),.lst (cl.map cu),.lst (kn.map .str)] L=.ok (if dg cl=true then ay else t4 (aA cl) aj once kn) L:=by
 unfold dQ;simp_arith [wQ h];cases dg cl with
 | true=>simp_arith;exact fin_same rfl
 | false =>
  simp_arith;generalize hx:forL _ _ _ _ _ _=o;obtain⟨z,w,rfl⟩:=se (i:=5) (s:=[]) once fT (fun a:List Fc=>T.lst (a.map fT)) (fun acc f=>dd acc (wf (aA cl) f)) (fun r acc=>acc.length+r.length<900/\∀f∈r,f.as.length<=1000) (fun z (w:Option T)=>[some (.lst (aj.map fT)),some (.lst (once.map fT)),some (.lst (cl.map cu)),some (.lst (kn.map .str)),some (.ref L.length),z,w,none,none]) (w:=none) hx (fun _=>sv) (fun _ _ _=>rfl) ⟨by simpa using ho,fun f hf=>ha f (Pn _ hf)⟩ fun f r acc w h1=>by
   have l1:=h1.1;rw [OP] at l1;have iv:mY (fT (wf (aA cl) f)) (.ref L.length) (.lst (acc.map fT)::L)=.ok (decide (wf (aA cl) f∈acc)) (.lst (acc.map fT)::L):=Gs (by simp only [fH,dq,de])
   refine⟨⟨?_,fun g hg=>h1.2 g (OG _ hg)⟩,some (fT (wf (aA cl) f)),?_⟩
   ·unfold dd
    split
    ·omega
    ·rw [OL,PM];omega
   ·simp_arith [Ay h f (h1.2 f OI),iv]
    unfold dd;by_cases hm:wf (aA cl) f∈acc
    ·simp_arith [hm,decide_true]
    ·simp_arith [hm,decide_false,show acc.length<lim by unfold lim;omega,dJ]
  have ef:once.foldl (fun acc f=>dd acc (wf (aA cl) f)) []=qz (once.map (wf (aA cl))):=by
   unfold qz;rw [List.foldl_map]
  rw [ef];obtain⟨_,_,dl⟩:=mW (once.map (wf (aA cl)));rw [Lm9] at dl;simp_arith;rw [bF rfl kn .str (fun n=>pT (n,aA cl n)) (by exact rfl) (by exact sv) (by unfold lim;omega) (by exact fun n _=>by(simp_arith [i8 h];rfl))];simp_arith;rw [bF rfl aj fT (fun f=>fT (wf (aA cl) f)) (by exact rfl) (by exact sv) (by unfold lim;omega) (by exact fun f hf=>by simp_arith [Ay h f (ha f (Pu _ hf))])];rw [show aj.map (fun f=>fT (wf (aA cl) f))=(aj.map (wf (aA cl))).map fT by rw [Py];rfl,show kn.map (fun n=>pT (n,aA cl n))=(kn.map fun n=>(n,aA cl n)).map pT by rw [Py];rfl];have s1:∀L,dO true [.lst ((aj.map (wf (aA cl))).map fT)] L=.ok (.lst (eB ((aj.map (wf (aA cl))).map fT))) L:=fun L=>mS rfl (tA (by simpa using hb))
  have s2:∀L,dO true [.ref (QB L)] (.lst ((qz (once.map (wf (aA cl)))).map fT)::L)=.ok (.lst (eB ((qz (once.map (wf (aA cl)))).map fT))) (.lst ((qz (once.map (wf (aA cl)))).map fT)::L):=fun L=>mS (by simp only [fH,dq,de]) (tA (by omega))
  have s3:∀L,dO true [.lst ((kn.map fun n=>(n,aA cl n)).map pT)] L=.ok (.lst (eB ((kn.map fun n=>(n,aA cl n)).map pT))) L:=fun L=>mS rfl (GN (by simpa using hk))
  simp_arith [s1,s2,s3];exact ic (Dr _ _ _ _ _)
noncomputable def nK (aj once:List Fc) (cl:List (List Cs)) (kn:List Cs):T:=.tup [.lst (aj.map fT),.lst (once.map fT),.lst (cl.map cu),.lst (kn.map .str)]
noncomputable def tM (ts fs:List Fc) (av:List (Cs × Cs)):T:=.tup [.lst (ts.map fT),.lst (fs.map fT),.lst (av.map pT)]
theorem GW (n:Nat) (A:List Cs):lt n (cu A)=true:=by rw [lt];exact fS A
theorem zJ {cl:List (List Cs)} (h:oM cl) (lk:List Cs) (f:Fc) (q:Nat) (hl:lk.length<=100) (hf:f.as.length<=100) (L:Live):∃g:Fc,g.k=f.k/\wf (aA cl) g=wf (aA cl) f/\(∀a∈g.as,a∈lk\/a∈f.as)/\bg [.lst (cl.map cu),.lst (lk.map .str),fT f,.int (q:Nat)] L=.ok (fT g) L:=by
 unfold bg;simp_arith;rw [GQ (n:=f.as.length) (by simp_arith) (by omega)];simp_arith;generalize ho:forL _ _ _ _ _ _=o;have hh:=dH ho (Pa f.as.length) (fun k=>T.int (k:Nat)) (fun r φ L'=>∃(acc:List Cs) (o5 o6:Option T),r=(Pa f.as.length).drop acc.length/\acc.length<=f.as.length/\acc.map (aA cl)=(f.as.map (aA cl)).take acc.length/\(∀a∈acc,a∈lk\/a∈f.as)/\φ=[some (.lst (cl.map cu)),some (.lst (lk.map .str)),some (fT f),some (.int (q:Nat)),some (.ref L.length),o5,o6]/\L'=.lst (acc.map .str)::L)
  (fun o=>∃(acc:List Cs) (o5 o6:Option T),acc.map (aA cl)=f.as.map (aA cl)/\(∀a∈acc,a∈lk\/a∈f.as)/\o=.nx [some (.lst (cl.map cu)),some (.lst (lk.map .str)),some (fT f),some (.int (q:Nat)),some (.ref L.length),o5,o6] (.lst (acc.map .str)::L)) rfl ⟨[],none,none,rfl,by simp,by simp,fun a z=>(by cases z),rfl,rfl⟩ (fun _ _ eJ eP j r φ L' hh=>by
   obtain⟨acc,o5,o6,e,l1,e1,m1,rfl,rfl⟩:=hh;refine⟨trivial,_,rfl,?_⟩;have bT:acc.length<f.as.length:=by
    rcases TN acc.length f.as.length with z|z
    ·exact z
    ·rw [Q6 (by simpa using z)] at e;cases e
   rw [PV (by simpa using bT)] at e;obtain⟨rfl,rfl⟩:=Te e;rw [List.getElem_range];have ia:∀L,ix (.tup (f.as.map .str)) (.int (acc.length:Nat)) L=.ok (.str f.as[acc.length]) L:=fun L=>jQ (by simp [bT])
   have ct:comp true (src (v 1)) [none,none,some 0,some 2,some 5] (.one 1) (tv (b2 (aq aD [v 2,v 1]) (aq aD [v 2,b2 (vi 3 1) (v 4) ix]) (cmp .Eq))) (v 1) [some (.lst (cl.map cu)),some (.lst (lk.map .str)),some (fT f),some (.int (q:Nat)),some (.ref L.length),some (.int (acc.length:Nat)),o6] (.lst (acc.map .str)::L)=.ok (.lst ((lk.filter fun a=>aA cl a == aA cl f.as[acc.length]).map .str)) (.lst (acc.map .str)::L):=by
    rw [dZ (k:=stays (.lst (lk.map .str)) (.lst (acc.map .str)::L)) rfl lk .str (fun a=>aA cl a == aA cl f.as[acc.length]) .str (by exact rfl) (by exact sv) (by unfold lim;omega) (by exact fun a _=>by simp_arith [ia,i8 h]) (by exact fun a _ _=>rfl)];rfl
   generalize hz:lk.filter (fun a=>aA cl a == aA cl f.as[acc.length])=lz at ct;have zl:lz.length<=100:=by rw [<- hz];exact Pq (P6 _ _) hl
   have ed:((q:Nat):Int) / ((acc.length+1:Nat):Int) % ((lz.length+1:Nat):Int)=((q / (acc.length+1) % (lz.length+1):Nat):Int):=rfl;have hm:q / (acc.length+1) % (lz.length+1)<lz.length+1:=PZ _ (by omega)
   generalize q / (acc.length+1) % (lz.length+1)=t at ed hm;obtain⟨x,hx,hp⟩:∃x,((lz++[f.as[acc.length]]).map T.str)[t]?=some (.str x)/\x∈lz++[f.as[acc.length]]:=by
    have ht:t<(lz++[f.as[acc.length]]).length:=by simp;omega
    exact⟨(lz++[f.as[acc.length]])[t],by rw [Pb,Ge9 ht];rfl,OV ht⟩
   have Ew:aA cl x=aA cl f.as[acc.length]/\(x∈lk\/x∈f.as):=by
    rcases OU.mp hp with z|z
    ·rw [<- hz] at z
     obtain⟨z1,z2⟩:=Pl.mp z;exact⟨by simpa using z2,.inl z1⟩
    ·rw [OK.mp z]
     exact⟨rfl,.inr (OV bT)⟩
   have iz:∀L,ix (.lst ((lz++[f.as[acc.length]]).map .str)) (.int (t:Nat)) L=.ok (.str x) L:=fun L=>bf hx
   simp_arith [eJ,eP,ct,ia];rw [aI (by simp only [OL,Lm9,OP,Pz];unfold lim;omega)];simp_arith [show(0:Int)<((acc.length+1:Nat):Int) by omega,show((acc.length+1:Nat):Int)<1073741824 by omega,show(0:Int)<((lz.length+1:Nat):Int) by omega,ed,show lz.map T.str++[T.str f.as[acc.length]]=(lz++[f.as[acc.length]]).map .str by simp,iz,show acc.length<lim by unfold lim;omega,dJ,eJ];refine⟨acc++[x],_,_,by rw [OL,PM],by simp;omega,?_,fun a ha=>(OU.mp ha).elim (m1 a) fun z=>by rw [OK.mp z];exact Ew.2,rfl,rfl⟩;rw [Pe,e1,OL,PM,Ua];simp [bT,Ew.1]) fun φ L' hh=>by
   obtain⟨acc,o5,o6,e,l1,e1,m1,rfl,rfl⟩:=hh;have:f.as.length<=acc.length:=by
    have:=congrArg QB e;simp at this;omega
   exact⟨trivial,acc,o5,o6,by rw [e1,Pk (by simpa using this)],m1,rfl⟩
 obtain⟨acc,o5,o6,e1,m1,rfl⟩:=hh;refine⟨⟨f.k,acc⟩,rfl,by unfold wf;rw [e1],m1,?_⟩;simp_arith;exact ic (dP _ ⟨f.k,acc⟩)
theorem GX {α:Type} {xs:List α} {n:Nat}:cut xs none (some (n:Int))=xs.take n:=by
 unfold cut clip;simp only [Nat.sub_zero,TU];rw [if_neg (by omega),Qf];by_cases h:n<=xs.length
 ·rw [Nat.min_eq_left h]
 ·rw [Nat.min_eq_right (by omega),Pk (OR _),Pk (by omega)]
theorem GY {xs:List T} {n:Nat} {L:Live} (h:xs.length<=lim):oX true (.lst xs) none (some (n:Int)) L=.ok (.lst (xs.take n)) L:=by
 unfold oX vw;simp only [];rw [GX,eE,aI (by rw [Qd];omega)];rfl
theorem zK {L L':Live} {x:T} (h:lt L.length x=true):Fz L L' x x:=.inl ⟨h,rfl⟩
structure Ch (ks:List Kd) (nm:List Cs) (aj:List Fc) (ts fs:List Fc) (av:List (Cs × Cs)):Prop where
 t:ts=[]\/∃f∈aj,ts=[f]
 l:fs.length<=2
 f:∀f∈fs,aK ks f/\f.as.length<=3/\∀a∈f.as,a∈nm
 p:av=[]\/∃a∈nm,∃b∈nm,av=[(a,b)]
theorem wW (ks:List Kd) (nm:List Cs) (w:Nat) (aj once:List Fc) (cl:List (List Cs)) (kn:List Cs) (ci:Int) (hk:ks.length=4) (hc:∀k∈ks,k.c<=3) (hm:nm.length=7) (hw:w=1\/w=2) (L:Live) :
  ∃ts fs av,Ch ks nm aj ts fs av/\cM [.lst (ks.map kT),.lst (nm.map .str),.int (w:Nat),nK aj once cl kn,.int ci] L=.ok (tM ts fs av) L:=by
 obtain⟨n,hn,oJ⟩:=lF ci 6 (by decide);have hx:∀L,au [.int ci,.int 6] L=.ok (.int (n:Nat)) L:=oJ
 clear oJ;have F1:=fun L=>wM ks nm ci hk hc hm L
 have F2:=fun L=>wM ks nm ((n:Nat):Int) hk hc hm L
 have gn:∀j,j<7->nm.getD j []∈nm:=fun j hj=>by
  have:j<nm.length:=by omega
  rw [Gd9,Ge9 this];exact OV this
 have e5:((n:Nat):Int) / 8 % 5=((n / 8 % 5:Nat):Int):=rfl;have ew:(5:Int)+((w:Nat):Int)=((5+w:Nat):Int):=rfl
 have l5:(nm.take (5+w)).length=5+w:=by rw [Qd];omega
 have JR:((n:Nat):Int) / 40 % ((5+w:Nat):Int)=((n / 40 % (5+w):Nat):Int):=rfl;have h5:n / 8 % 5<5:=PZ _ (by decide)
 have Lc:n / 40 % (5+w)<5+w:=PZ _ (by omega);generalize n / 8 % 5=p1 at e5 h5;generalize n / 40 % (5+w)=p2 at JR Lc;have i1:∀L,ix (.lst (nm.map .str)) (.int (p1:Nat)) L=.ok (.str (nm.getD p1 [])) L:=fun L=>bf (by simp [Gd9,show p1<nm.length by omega])
 have i2:∀L,ix (.lst ((nm.map .str).take (5+w))) (.int (p2:Nat)) L=.ok (.str (nm.getD p2 [])) L:=fun L=>bf (by rw [<- Uq,Pb,List.getElem?_take,if_pos Lc];simp [Gd9,show p2<nm.length by omega])
 have sl:∀L,oX true (.lst (nm.map .str)) none (some ((5+w:Nat):Int)) L=.ok (.lst ((nm.map .str).take (5+w))) L:=fun L=>GY (by simp [hm];decide)
 have ll:((nm.map T.str).take (5+w)).length=5+w:=by simp;omega
 have e2:((n:Nat):Int) / 5 % 2=((n / 5 % 2:Nat):Int):=rfl;have w0:(0:Int)<((5+w:Nat):Int):=by omega
 have q1:=gn p1 (by omega);have q2:=gn p2 (by omega)
 have tk:aj≠[]->∃f∈aj,∀L,ix (.lst (aj.map fT)) (.int (((n:Nat):Int) / 8 % ((aj.length:Nat):Int))) L=.ok (fT f) L:=fun hb=>by
  have hp:=Q5.mpr hb;have:n / 8 % aj.length<aj.length:=PZ _ hp
  exact⟨aj[n / 8 % aj.length],OV this,fun L=>bf (i:=n / 8 % aj.length) (by simp [this])⟩
 unfold cM nK;have hj:n % 8<8:=PZ _ (by decide)
 generalize hq:n % 8=j at hj;have e8:((n:Nat):Int) % 8=((j:Nat):Int):=by omega
 clear hq;have n0:∀k:Nat,k<8->decide ((5:Int)<(k:Nat))=decide (5<k)/\decide (((k:Nat):Int)<4)=decide (k<4)/\decide (((k:Nat):Int)<2)=decide (k<2)/\(((k:Nat):Int) == 7)=decide (k=7)/\(((k:Nat):Int) == 4)=decide (k=4)/\(((k:Nat):Int) == 5)=decide (k=5):=by decide
 obtain⟨c1,c2,c3,c4,c5,c6⟩:=n0 j hj;simp_arith [hx,e8,c1];generalize hA:@ite O (_=true) (instDecidableEqBool _ _) _ _=oA;obtain⟨ts,z9,ht,rfl⟩:∃(ts:List Fc) (z9:Option T),(ts=[]\/∃f∈aj,ts=[f])/\oA=.nx [some (.lst (ks.map kT)),some (.lst (nm.map .str)),some (.int (w:Nat)),some (.tup [.lst (aj.map fT),.lst (once.map fT),.lst (cl.map cu),.lst (kn.map .str)]),some (.int ci),some (.int (n:Nat)),some (.lst (ts.map fT)),some (.ref L.length),some (.lst []),z9,none] (.lst []::L):=by
  subst hA;by_cases hb:aj=[]
  ·subst hb
   refine⟨[],none,.inl rfl,?_⟩;cases decide (5<j) <;> rfl
  ·obtain⟨f,hf,hi⟩:=tk hb
   have hp:(0:Int)<(aj.length:Int):=by have:=Q5.mpr hb;omega
   cases decide (5<j) with
   | false=>exact⟨[],none,.inl rfl,by(simp_arith;try rfl)⟩
   | true=>exact⟨[f],_,.inr ⟨f,hf,rfl⟩,by(simp_arith [hp,decide_true,aI hp,hi];try rfl)⟩
 clear hA;simp_arith [e8,c2,c4];generalize hB:@ite O (_=true) (instDecidableEqBool _ _) _ _=oB;obtain⟨fs,Ln,m,JS,rfl⟩:∃(fs:List Fc) (Ln:Live) (m:Nat),((fs=[]/\m=L.length/\Ln=[.lst []]/\¬ j<2)\/∃f,(aK ks f/\f.as.length<=3/\∀a∈f.as,a∈nm)/\fs=[f]/\m=L.length+1/\Ln=[.lst [fT f],.lst []])/\oB=.nx [some (.lst (ks.map kT)),some (.lst (nm.map .str)),some (.int (w:Nat)),some (.tup [.lst (aj.map fT),.lst (once.map fT),.lst (cl.map cu),.lst (kn.map .str)]),some (.int ci),some (.int (n:Nat)),some (.lst (ts.map fT)),some (.ref m),some (.lst []),z9,none] (Ln++L):=by
  subst hB;obtain⟨f,f1,f2,f3,f4⟩:=F1 (.lst []::L);by_cases h4:j<4
  ·exact⟨[f],[.lst [fT f],.lst []],_,.inr ⟨f,⟨f1,f2,f3⟩,rfl,rfl,rfl⟩,by(simp_arith [h4,decide_true,f4];try rfl)⟩
  ·by_cases h7:j=7
   ·exact⟨[f],[.lst [fT f],.lst []],_,.inr ⟨f,⟨f1,f2,f3⟩,rfl,rfl,rfl⟩,by(simp_arith [h4,decide_false,h7,decide_true,f4];try rfl)⟩
   ·exact⟨[],[.lst []],_,.inl ⟨rfl,rfl,rfl,by omega⟩,by(simp_arith [h4,decide_false,h7];try rfl)⟩
 clear hB;simp_arith [e8,c3];generalize hC:@ite O (_=true) (instDecidableEqBool _ _) _ _=oC;obtain⟨fs,Ln,m,l2,JS,NA,vb,rfl⟩:∃(fs:List Fc) (Ln:Live) (m:Nat),fs.length<=2/\(∀f∈fs,aK ks f/\f.as.length<=3/\∀a∈f.as,a∈nm)/\L.length<=m/\at_ (Ln++L) m=some (.lst (fs.map fT))/\oC=.nx [some (.lst (ks.map kT)),some (.lst (nm.map .str)),some (.int (w:Nat)),some (.tup [.lst (aj.map fT),.lst (once.map fT),.lst (cl.map cu),.lst (kn.map .str)]),some (.int ci),some (.int (n:Nat)),some (.lst (ts.map fT)),some (.ref m),some (.lst []),z9,none] (Ln++L):=by
  subst hC;rcases JS with⟨rfl,rfl,rfl,h2⟩|⟨f,hf,rfl,rfl,rfl⟩
  ·exact⟨[],[.lst []],_,by simp,fun f z=>(by cases z),OR _,dq,by(simp_arith [h2,decide_false];try rfl)⟩
  ·by_cases h2:j<2
   ·obtain⟨g,g1,g2,g3,g4⟩:=F2 (.lst [fT f] :: .lst []::L)
    refine⟨[f,g],[.lst [fT f,fT g],.lst []],L.length+1,OR _,fun x hx=>all2 (P:=fun x=>aK ks x/\x.as.length<=3/\∀a∈x.as,a∈nm) hf ⟨g1,g2,g3⟩ hx,by omega,tJ,?_⟩;simp_arith [h2,decide_true,g4]
    try rfl
   ·exact⟨[f],[.lst [fT f],.lst []],L.length+1,by simp,fun x hx=>by rw [OK.mp hx];exact hf,by omega,tJ,by(simp_arith [h2,decide_false];try rfl)⟩
 clear hC;simp_arith [e8,c4,c5,c6];generalize hD:@ite O (_=true) (instDecidableEqBool _ _) _ _=oD;obtain⟨av,Ld,hp,rfl⟩:∃(av:List (Cs × Cs)) (Ld:Option T),(av=[]\/∃a∈nm,∃b∈nm,av=[(a,b)])/\oD=.nx [some (.lst (ks.map kT)),some (.lst (nm.map .str)),some (.int (w:Nat)),some (.tup [.lst (aj.map fT),.lst (once.map fT),.lst (cl.map cu),.lst (kn.map .str)]),some (.int ci),some (.int (n:Nat)),some (.lst (ts.map fT)),some (.ref m),some (.lst (av.map pT)),z9,Ld] (Ln++L):=by
  subst hD;by_cases h4:j=4\/j=5\/j=7
  ·have hc:(if decide (j=4)=true then true else if decide (j=5)=true then true else decide (j=7))=true:=by rcases h4 with rfl|rfl|rfl <;> rfl
   rw [if_pos hc];cases hb:(((n / 5 % 2:Nat):Int) == 0) with
   | false =>
    exact⟨[(nm.getD p1 [],nm.getD p2 [])],_,.inr ⟨_,q1,_,q2,rfl⟩,by(simp_arith [ew,sl,e5,i1,ll,JR,w0,i2,e2,hb];try rfl)⟩
   | true=>exact⟨[(nm.getD p2 [],nm.getD p1 [])],_,.inr ⟨_,q2,_,q1,rfl⟩,by(simp_arith [ew,sl,e5,i1,ll,JR,w0,i2,e2,hb];try rfl)⟩
  ·obtain⟨a1,a2⟩:=not_or.mp h4
   obtain⟨a2,a3⟩:=not_or.mp a2;exact⟨[],none,.inl rfl,by(simp_arith [a1,a2,a3,decide_false];try rfl)⟩
 have JT:=sA (L:=L) (Ln:=Ln) (xs:=[.lst (ts.map fT),.ref m,.lst (av.map pT)]) (ys:=[.lst (ts.map fT),.lst (fs.map fT),.lst (av.map pT)]) (.cons (zK (dY dP)) (.cons (.inr ⟨m,rfl,NA,vb,dY dP⟩) (.cons (zK (dY wi)) .nil)));refine⟨ts,fs,av,⟨ht,l2,JS,hp⟩,?_⟩;simp_arith;exact JT
section
variable {k:Live->Prop} {tg:Tg} {b:SS} {φ φ1 φ2:Fr} {L L2:Live} {x:T}
theorem wX (h:k L):forL k tg b [] φ L=.nx φ L:=by rw [forL,if_pos h]
theorem Az (h:k L) (hs:tg.set x φ=some φ1) (hb:b φ1 L=.nx φ2 L2) (h2:k L2):forL k tg b [x] φ L=.nx φ2 L2:=by
 rw [forL,if_pos h];simp only [hs,hb];exact wX h2
end
theorem GZ {aj:List Fc} {f:Fc} (hf:f∈aj) {n:Nat} {L:Live} (h:at_ L n=some (.lst (aj.map fT))):∃aV,aj.Perm (f::aV)/\u3 (.ref n) [fT f] L=.ok .bK (put L n (.lst (aV.map fT))):=by
 have ex:∃j,(aj.map fT).findIdx? (fun y=>eqT y (fT f))=some j:=by
  cases e:(aj.map fT).findIdx? fun y=>eqT y (fT f) with
  | some j=>exact⟨j,rfl⟩
  | none =>
   have z:=R4.mp e (fT f) (O9 hf);rw [lB] at z;simp at z
 obtain⟨j,e⟩:=ex;obtain⟨h1,h2,_⟩:=PU.mp e;have hj:j<aj.length:=by simpa using h1
 have ej:aj[j]=f:=by
  rw [Ra,lB] at h2;simpa using h2
 refine⟨aj.eraseIdx j,?_,?_⟩
 ·rw [Qm]
  have z:aj=aj.take j++f::aj.drop (j+1):=by
   conv=>lhs;rw [<- Qy j aj,PV hj,ej]
  conv=>lhs;rw [z]
  exact UA
 ·unfold u3
  simp only [h];rw [aI ⟨iN f,b8 iN aj⟩,e];simp only [];rw [Qm,Qm,Pe,Uq,Vq]
noncomputable def t5 (kn:List Cs) (fs:List Fc) (av:List (Cs × Cs)):List Cs:=ax (av.flatMap fun p=>[p.1,p.2]) (ax (fs.flatMap (·.as)) kn)
noncomputable def AA (cl:List (List Cs)) (av:List (Cs × Cs)):List (List Cs):=av.foldl (fun cl p=>Un.merged cl p.1 p.2) cl
theorem wY (a b acc:List Cs):ax (a++b) acc=ax b (ax a acc):=by unfold ax;rw [T8]
theorem wZ (ks:List Kd) (nd:(ks.map (·.n)).Nodup) (nm:List Cs) (hn:∀a∈nm,iA a) (aj once:List Fc) (cl:List (List Cs)) (kn:List Cs) (ts fs:List Fc) (av:List (Cs × Cs)) (C:Ch ks nm aj ts fs av) (hc:oM cl) (hb:aj.length<900) (ho:once.length<900) (hk:kn.length<=100) (L:Live) :
  ∃aV,((ts=[]/\aV=aj)\/∃f,ts=[f]/\aj.Perm (f::aV))/\cL [.lst (ks.map kT),nK aj once cl kn,tM ts fs av] L=.ok (nK (aV++bw ks fs) (once++bG ks fs) (AA cl av) (t5 kn fs av)) L:=by
 have bl:∀(l:List Fc) (L:Live),l.length<900->dC false [.lst (l.map fT)] L=.ok (.ref L.length) (.lst (l.map fT)::L):=fun l L hl=>by
  show eE false (l.map fT) L=_;rw [eE,aI (by simp;unfold lim;omega)];rfl
 unfold cL nK tM;simp_arith [bl aj L hb];generalize hA:forL _ _ _ _ _ _=oA;obtain⟨aV,z4,h1,E7,rfl⟩:∃(aV:List Fc) (z4:Option T),((ts=[]/\aV=aj)\/∃f,ts=[f]/\aj.Perm (f::aV))/\aV.length<900/\oA=.nx [some (.lst (ks.map kT)),some (.tup [.lst (aj.map fT),.lst (once.map fT),.lst (cl.map cu),.lst (kn.map .str)]),some (.tup [.lst (ts.map fT),.lst (fs.map fT),.lst (av.map pT)]),some (.ref L.length),z4,none,none,none,none] (.lst (aV.map fT)::L):=by
  subst hA;rcases C.t with rfl|⟨f,hf,rfl⟩
  ·exact⟨aj,_,.inl ⟨rfl,rfl⟩,hb,wX sv⟩
  ·obtain⟨aV,p,e⟩:=GZ hf (L:=.lst (aj.map fT)::L) dq
   have pl:=p.length_eq;rw [OP] at pl;refine⟨aV,some (fT f),.inr ⟨f,rfl,p⟩,by omega,Az sv rfl ?_ sv⟩;rw [wg] at e;simp_arith [jw,e]
 clear hA;refine⟨aV,h1,?_⟩;simp_arith [bl once (.lst (aV.map fT)::L) ho];generalize hB:forL _ _ _ _ _ _=oB;have hB:=dH hB fs fT (fun r φ L'=>∃done o4,done++r=fs/\φ=[some (.lst (ks.map kT)),some (.tup [.lst (aj.map fT),.lst (once.map fT),.lst (cl.map cu),.lst (kn.map .str)]),some (.tup [.lst (ts.map fT),.lst (fs.map fT),.lst (av.map pT)]),some (.ref L.length),o4,some (.ref (L.length+1)),some (.lst ((ax (done.flatMap (·.as)) kn).map .str)),none,none]/\L'=.lst ((once++bG ks done).map fT) :: .lst ((aV++bw ks done).map fT)::L)
  (fun o=>∃o4,o=.nx [some (.lst (ks.map kT)),some (.tup [.lst (aj.map fT),.lst (once.map fT),.lst (cl.map cu),.lst (kn.map .str)]),some (.tup [.lst (ts.map fT),.lst (fs.map fT),.lst (av.map pT)]),some (.ref L.length),o4,some (.ref (L.length+1)),some (.lst ((ax (fs.flatMap (·.as)) kn).map .str)),none,none] (.lst ((once++bG ks fs).map fT) :: .lst ((aV++bw ks fs).map fT)::L)) rfl ⟨[],_,rfl,rfl,by simp [bG,bw]⟩ (fun _ _ eJ eP f r φ L' hh=>by
   obtain⟨done,o4,e,rfl,rfl⟩:=hh;refine⟨sv,_,rfl,?_⟩;have hf:=C.f f (e ▸ Pn _ OI)
   have hd:done.length+(r.length+1)=fs.length:=by rw [<- e];simp
   have l2:=C.l;have dl:(done.flatMap (·.as)).length<=4 * done.length:=wF fun g hg=>Pq (C.f g (e ▸ Pu _ hg)).2.1 (by decide)
   have kl:=wR (done.flatMap (·.as)) kn;have s1:(bG ks done).length<=done.length:=P6 _ _
   have s2:(bw ks done).length<=done.length:=P6 _ _;have pk:=sy (ax (done.flatMap (·.as)) kn) f.as (.lst ((once++bG ks done).map fT) :: .lst ((aV++bw ks done).map fT)::L) (fun n D9=>hn n (hf.2.2 n D9)) (by have:=hf.2.1;omega)
   rw [<- wY] at pk;have ef:(done++[f]).flatMap (fun y:Fc=>y.as)=done.flatMap (fun y:Fc=>y.as)++f.as:=by simp
   have NB:=zI ks f (.lst ((once++bG ks done).map fT) :: .lst ((aV++bw ks done).map fT)::L) nd hf.1;simp_arith [eJ,eP,pk,NB];have Lf:(done++[f])++r=fs:=by rw [PR];exact e
   by_cases yD:f.k∈lr ks
   ·have a1:bG ks (done++[f])=bG ks done++[f]:=by
     unfold bG;rw [Sr];simp [show f.k∈(ks.filter (·.l)).map (·.n) from yD]
    have a2:bw ks (done++[f])=bw ks done:=by
     unfold bw;rw [Sr];simp [show f.k∈(ks.filter (·.l)).map (·.n) from yD]
    simp_arith [yD,decide_true,show(once++bG ks done).length<lim by rw [OL];unfold lim;omega,dJ,eJ];exact⟨done++[f],_,Lf,by rw [ef],by rw [a1,a2,PR]⟩
   ·have a1:bG ks (done++[f])=bG ks done:=by
     unfold bG;rw [Sr];simp [show f.k∉(ks.filter (·.l)).map (·.n) from yD]
    have a2:bw ks (done++[f])=bw ks done++[f]:=by
     unfold bw;rw [Sr];simp [show f.k∉(ks.filter (·.l)).map (·.n) from yD]
    simp_arith [yD,decide_false,show(aV++bw ks done).length<lim by rw [OL];unfold lim;omega,dJ,eJ];exact⟨done++[f],_,Lf,by rw [ef],by rw [a1,a2,PR]⟩) fun φ L' hh=>by
   obtain⟨done,o4,e,rfl,rfl⟩:=hh;rw [QD] at e;subst e;exact⟨sv,o4,rfl⟩
 obtain⟨o4,rfl⟩:=hB;simp_arith;generalize hD:forL _ _ _ _ _ _=oD;have fl:(fs.flatMap (·.as)).length<=4 * fs.length:=wF fun g hg=>Pq (C.f g hg).2.1 (by decide)
 have kl:=wR (fs.flatMap (·.as)) kn;have l2:=C.l
 obtain⟨z8,rfl⟩:∃z8,oD=.nx [some (.lst (ks.map kT)),some (.tup [.lst (aj.map fT),.lst (once.map fT),.lst (cl.map cu),.lst (kn.map .str)]),some (.tup [.lst (ts.map fT),.lst (fs.map fT),.lst (av.map pT)]),some (.ref L.length),o4,some (.ref (L.length+1)),some (.lst ((t5 kn fs av).map .str)),some (.lst ((AA cl av).map cu)),z8] (.lst ((once++bG ks fs).map fT) :: .lst ((aV++bw ks fs).map fT)::L):=by
  subst hD;rcases C.p with rfl|⟨a,ha,b,hb',rfl⟩
  ·exact⟨_,wX sv⟩
  ·refine⟨some (pT (a,b)),Az sv rfl ?_ sv⟩
   have pk:=sy (ax (fs.flatMap (·.as)) kn) [a,b] (.lst ((once++bG ks fs).map fT) :: .lst ((aV++bw ks fs).map fT)::L) (fun n D9=>all2 (P:=iA) (hn a ha) (hn b hb') D9) (by simp;omega);have pk:bB [.lst ((ax (fs.flatMap (·.as)) kn).map .str),pT (a,b)] (.lst ((once++bG ks fs).map fT) :: .lst ((aV++bw ks fs).map fT)::L)=.ok (.lst ((ax [a,b] (ax (fs.flatMap (·.as)) kn)).map .str)) (.lst ((once++bG ks fs).map fT) :: .lst ((aV++bw ks fs).map fT)::L):=pk
   simp_arith [pk,wU cl a b _ hc.l1 hc.l2];rfl
 simp_arith;exact sA (L:=L) (Ln:=[.lst ((once++bG ks fs).map fT),.lst ((aV++bw ks fs).map fT)]) (.cons (.inr ⟨_,rfl,OR _,we,dY dP⟩) (.cons (.inr ⟨_,rfl,RF _,tJ,dY dP⟩) (.cons (zK (dY GW)) (.cons (zK (by rw [lt];exact fS _)) .nil))))
theorem w5 (p q:Cs):dF great fN p q=p\/dF great fN p q=q:=by
 unfold dF;split
 ·exact .inl rfl
 ·split
  ·exact .inr rfl
  ·exact Un.wb p q
structure Sk (K:List Cs) (st:bq):Prop where
 nd:(st.map (·.1)).Nodup
 ks:∀x,x∈st.map (·.1)↔x∈K
 gv:∀e∈st,great e.2=true->e.2∈K
 kg:∀x∈K,great x=true
theorem jT (p q:Cs) (x:Cs):∀st:bq,gh (st.map (iM p q)) x=(gh st x).map fun v=>if v=p\/v=q then dF great fN p q else v
 | []=>rfl
 | e::st=>by
  have ih:=jT p q x st;unfold gh at ih ⊢;rw [OZ,Qs,Qs];show VG _ (match decide (e.1=x) with|true=>some (iM p q e)|false=>_)=_
  cases decide (e.1=x) with
  | true=>rfl
  | false=>exact ih
theorem oN {st:bq} {x:Cs}:(∃v,gh st x=some v/\(x,v)∈st/\bJ st x=v)\/(gh st x=none/\x∉st.map (·.1)/\bJ st x=x):=by
 unfold bJ;cases e:gh st x with
 | none =>
  unfold gh at e;refine .inr ⟨rfl,fun h=>?_,rfl⟩;obtain⟨y,hy,rfl⟩:=OT.mp h;exact absurd (Qg.mp (UQ.mp e) y hy) (by simp)
 | some v =>
  unfold gh at e;obtain⟨y,h1,h2⟩:=OW.mp e;have h3:y.1=x:=by simpa using Tr h1
  exact .inl ⟨v,rfl,by rw [<- h3,<- h2];exact QN h1,rfl⟩
theorem Sk.tell {K:List Cs} {st:bq} (s:Sk K st) {a b:Cs} (ha:great a=true->a∈K) (hb:great b=true->b∈K) (ht:¬ dG (bJ st a) (bJ st b)):Sk K (bM st (bJ st a) (bJ st b))/\bJ (bM st (bJ st a) (bJ st b))=told great fN (bJ st) a b:=by
 have gr:∀{a:Cs},(great a=true->a∈K)->great (bJ st a)=true->bJ st a∈K:=fun {a} ha g=>by
  rcases oN (st:=st) (x:=a) with⟨v,_,h2,h3⟩|⟨_,_,h3⟩
  ·rw [h3] at g ⊢;exact s.gv _ h2 g
  ·rw [h3] at g ⊢;exact ha g
 have ga:=gr ha;have gb:=gr hb
 have ck:=w5 (bJ st a) (bJ st b);refine⟨?_,funext fun x=>?_⟩
 ·unfold bM
  split
  ·exact s
  ·refine⟨by rw [Bk.gj];exact s.nd,fun x=>by rw [Bk.gj];exact s.ks x,fun e he g=>?_,s.kg⟩
   obtain⟨e',he',rfl⟩:=OT.mp he;unfold iM at g ⊢;dsimp only at g ⊢;split at g
   ·rename_i z
    rw [if_pos z];rcases ck with e|e <;> rw [e] at g ⊢
    ·exact ga g
    ·exact gb g
   ·rename_i z
    rw [if_neg z];exact s.gv _ he' g
 ·unfold bM
  split
  ·rename_i e
   unfold told;rw [<- e];split
   ·rename_i z
    rw [show bJ st x=bJ st a by simpa using z];unfold dF mn;simp
   ·rfl
  ·rename_i hne
   rcases oN (st:=st) (x:=x) with⟨v,h1,h2,h3⟩|⟨h1,h2,h3⟩
   ·unfold told
    rw [h3]
    conv=>lhs;unfold bJ
    rw [jT,h1];rfl
   ·unfold told
    rw [h3]
    conv=>lhs;unfold bJ
    rw [jT,h1];show x=_
    have hx:great x=true->x∉K:=fun _ h=>h2 ((s.ks x).mpr h)
    unfold dG at ht;unfold dF;grind
theorem zL (st:bq) (n:Cs):bJ (dM st n)=bJ st:=funext fun x=>by
 unfold dM;split
 ·split
  ·rfl
  ·rename_i hn
   unfold bJ gh;rw [Ui];cases e:st.find? fun p=>decide (p.1=x) with
   | some p=>rfl
   | none =>
    show(VG _ (List.find? (fun p=>decide (p.1=x)) [(n,n)])).getD x=x;rw [Qs];by_cases h:n=x
    ·rw [show decide ((n,n).1=x)=true from decide_eq_true h]
     exact h
    ·rw [show decide ((n,n).1=x)=false from decide_eq_false h]
     rfl
 ·rfl
theorem w6:∀(ns:List Cs) (st:bq),bJ (fj st ns)=bJ st
 | [],_=>rfl
 | n::ns,st=>(w6 ns (dM st n)).trans (zL st n)
theorem w7 (st:bq) (n:Cs):(dM st n).map (·.1)=cS n (st.map (·.1)):=by
 unfold dM cS;split
 ·split
  ·rfl
  ·rw [Pe];rfl
 ·rfl
theorem sC:∀(ns:List Cs) (st:bq),(fj st ns).map (·.1)=ax ns (st.map (·.1))
 | [],_=>rfl
 | n::ns,st=>by
  show(fj (dM st n) ns).map (·.1)=ax ns (cS n (st.map (·.1)));rw [sC ns,w7]
theorem AB:∀{st:bq},(st.map (·.1)).Nodup->st=(st.map (·.1)).map fun n=>(n,bJ st n):=fun {st} nd=>by
 have key:∀l:bq,(∀e∈l,e∈st)->l=(l.map (·.1)).map fun n=>(n,bJ st n):=by
  intro l;induction l with
  | nil=>intro _;rfl
  | cons e l ih =>
   intro h;rw [OZ,OZ,<- ih fun x hx=>h x (OG _ hx)];congr 1;have he:=h e OI
   rcases oN (st:=st) (x:=e.1) with⟨v,_,h2,h3⟩|⟨_,h2,_⟩
   ·rw [h3]
    have:=Bk.qn nd he h2 rfl;rw [<- this]
   ·exact absurd (O9 he) h2
 exact key st fun _ h=>h
structure Sd (ρ:Cs->Cs) (kn:List Cs) (st:bq):Prop where
 nd:(st.map (·.1)).Nodup
 ks:∀x,x∈st.map (·.1)↔x∈kn
 rh:bJ st=ρ
theorem Sd.perm {ρ:Cs->Cs} {kn:List Cs} {st:bq} (h:Sd ρ kn st) (nd:kn.Nodup):st.Perm (kn.map fun n=>(n,ρ n)):=by
 have e:=AB h.nd;rw [h.rh] at e;rw [e];exact((Q8 h.nd nd).mpr h.ks).map _
theorem Sd.of {ρ:Cs->Cs} {kn:List Cs} {st:bq} (p:st.Perm (kn.map fun n=>(n,ρ n))) (nd:kn.Nodup) (h0:∀x,x∉kn->ρ x=x):Sd ρ kn st:=by
 have e:(kn.map fun n=>(n,ρ n)).map (·.1)=kn:=by rw [Py];exact Ux kn
 have pk:(st.map (·.1)).Perm kn:=by rw [<- e];exact p.map _
 refine⟨pk.nodup_iff.mpr nd,fun x=>pk.mem_iff,funext fun x=>?_⟩;rcases oN (st:=st) (x:=x) with⟨v,_,h2,h3⟩|⟨_,h2,h3⟩
 ·obtain⟨n,hn,en⟩:=OT.mp (p.mem_iff.mp h2)
  cases en;exact h3
 ·rw [h3]
  exact(h0 x fun z=>h2 (pk.mem_iff.mpr z)).symm
theorem Sd.kn {ρ:Cs->Cs} {kn:List Cs} {st:bq} (h:Sd ρ kn st) (ns:List Cs):Sd ρ (ax ns kn) (fj st ns):=by
 refine⟨sj ns h.nd,fun x=>?_,(w6 ns st).trans h.rh⟩;rw [sC,Bk.bt,Bk.bt,h.ks]
theorem Sd.tell {ρ:Cs->Cs} {kn:List Cs} {st:bq} (h:Sd ρ kn st) (kg:∀n∈kn,great n=true) (gv:∀n,great (ρ n)=true->n∈kn->ρ n∈kn) {a b:Cs} (ha:great a=true->a∈kn) (hb:great b=true->b∈kn) (ht:¬ dG (ρ a) (ρ b)):Sd (told great fN ρ a b) kn (bM st (ρ a) (ρ b)):=by
 have sk:Sk kn st:=⟨h.nd,h.ks,fun e he g=>by
  have e':=AB h.nd;rw [e',h.rh] at he;obtain⟨n,hn,rfl⟩:=OT.mp he;exact gv n g ((h.ks n).mp hn),kg⟩
 have z:=sk.tell ha hb (by rw [h.rh];exact ht);rw [h.rh] at z;exact⟨z.1.nd,z.1.ks,z.2⟩
noncomputable def Kn (nm kn:List Cs) (a:Cs):Prop:=a∈nm/\(great a=true->a∈kn)
structure Sv (ks:List Kd) (nm:List Cs) (aj once:List Fc) (cl:List (List Cs)) (kn:List Cs) (i:Nat):Prop where
 nd:kn.Nodup
 kg:∀n∈kn,great n=true/\n∈nm
 ca:∀A∈cl,∀a∈A,Kn nm kn a
 fb:∀f∈aj,aK ks f/\f.as.length<=3/\(∀a∈f.as,Kn nm kn a)/\f.k∉lr ks
 fo:∀f∈once,f.as.length<=3
 Lg:∀f∈once,aK ks f/\∀a∈f.as,a∈nm
 l1:aj.length<=2 * i
 l2:once.length<=2 * i
 l3:cl.length<=i
 l4:(cl.map QB).sum<=2 * i
theorem Dt {l:List (List Cs)} {A:List Cs} (h:A∈l):A.length<=(l.map QB).sum:=by
 induction l with
 | nil=>cases h
 | cons B l ih =>
  rw [OZ,Sh];rcases OS.mp h with rfl|h
  ·omega
  ·have:=ih h;omega
theorem Sv.cl {ks:List Kd} {nm:List Cs} {aj once:List Fc} {cl:List (List Cs)} {kn:List Cs} {i:Nat} (h:Sv ks nm aj once cl kn i) (hn:∀a∈nm,iA a) (hi:i<=59):oM cl:=by
 have:=h.l3;have:=h.l4
 exact⟨fun A hA a ha=>hn a (h.ca A hA a ha).1,by omega,fun A hA=>by have:=Dt hA;omega⟩
theorem Sv.kl {ks:List Kd} {nm:List Cs} {aj once:List Fc} {cl:List (List Cs)} {kn:List Cs} {i:Nat} (h:Sv ks nm aj once cl kn i) (h7:nm.length=7):kn.length<=7:=by
 have:=Bk.lx kn nm h.nd fun x hx=>(h.kg x hx).2
 omega
theorem qB {α:Type} [DecidableEq α] (a b:α):∀(cl:List (List α)) (acc:List α × List (List α)),(Un.go a b cl acc).1.length+((Un.go a b cl acc).2.map QB).sum<=acc.1.length+(acc.2.map QB).sum+(cl.map QB).sum/\(Un.go a b cl acc).2.length<=acc.2.length+cl.length
 | [],acc=>by unfold Un.go;simp
 | A::r,acc=>by
  unfold Un.go;split
  ·have z:=qB a b r (acc.1++A.filter (fun x=>decide (x∉acc.1)),acc.2)
   have fl:(A.filter fun x=>decide (x∉acc.1)).length<=A.length:=P6 _ _;simp only [OL,OZ,Sh,OP] at z ⊢;omega
  ·have z:=qB a b r (acc.1,acc.2++[A])
   simp only [OL,Pe,OZ,Qp,List.sum_append,Sh,List.sum_nil,OP,Pz] at z ⊢;omega
theorem jU (cl:List (List Cs)) (a b:Cs):((Un.merged cl a b).map QB).sum<=(cl.map QB).sum+2/\(Un.merged cl a b).length<=cl.length+1:=by
 have z:=qB a b cl ([a,b],[]);unfold Un.merged;simp only [Pe,OZ,Qp,List.sum_append,Sh,List.sum_nil,OL,OP,Pz] at z ⊢;omega
theorem tN {cl:List (List Cs)} {a b:Cs} {P:Cs->Prop} (h:∀A∈cl,∀x∈A,P x) (ha:P a) (hb:P b):∀A∈Un.merged cl a b,∀x∈A,P x:=fun A hA x hx=>by
 unfold Un.merged at hA;rw [Un.fF,QE] at hA;rcases OU.mp hA with z|z
 ·exact h A (Pl.mp z).1 x hx
 ·rw [OK.mp z,Un.gg] at hx
  rcases hx with hx|⟨o,ho,_,h2⟩
  ·exact all2 ha hb hx
  ·exact h o ho x h2
theorem Kn.up {nm kn w8:List Cs} {a:Cs} (h:Kn nm kn a) (hs:∀x∈kn,x∈w8):Kn nm w8 a:=⟨h.1,fun g=>hs a (h.2 g)⟩
theorem ig (kn:List Cs) (fs:List Fc) (av:List (Cs × Cs)) (x:Cs):x∈t5 kn fs av↔x∈kn\/((x∈fs.flatMap (·.as)\/x∈av.flatMap fun p=>[p.1,p.2])/\great x=true):=by
 unfold t5;rw [Bk.bt,Bk.bt];constructor
 ·rintro((h|h)|h)
  ·exact .inl h
  ·exact .inr ⟨.inl h.1,h.2⟩
  ·exact .inr ⟨.inr h.1,h.2⟩
 ·rintro(h|⟨h|h,g⟩)
  ·exact .inl (.inl h)
  ·exact .inl (.inr ⟨h,g⟩)
  ·exact .inr ⟨h,g⟩
theorem Sv.next {ks:List Kd} {nm:List Cs} {aj once:List Fc} {cl:List (List Cs)} {kn:List Cs} {i:Nat} (h:Sv ks nm aj once cl kn i) {ts fs:List Fc} {av:List (Cs × Cs)} (C:Ch ks nm aj ts fs av) {aV:List Fc} (hb:(ts=[]/\aV=aj)\/∃f,ts=[f]/\aj.Perm (f::aV)) :
  Sv ks nm (aV++bw ks fs) (once++bG ks fs) (AA cl av) (t5 kn fs av) (i+1):=by
 have mono:∀x∈kn,x∈t5 kn fs av:=fun x hx=>(ig kn fs av x).mpr (.inl hx)
 have b1:(∀f∈aV,f∈aj)/\aV.length<=aj.length:=by
  rcases hb with⟨_,rfl⟩|⟨f,_,p⟩
  ·exact⟨fun _ h=>h,OR _⟩
  ·exact⟨fun g hg=>p.mem_iff.mpr (OG _ hg),by have:=p.length_eq;rw [OP] at this;omega⟩
 have pin:∀x,(x∈av.flatMap fun p=>[p.1,p.2])->x∈nm:=fun x hx=>by
  rcases C.p with rfl|⟨a,ha,b,hb,rfl⟩
  ·cases hx
  ·exact all2 (P:=fun x=>x∈nm) ha hb (by simpa using hx)
 have yx:∀x,x∈fs.flatMap (·.as)->x∈nm:=fun x hx=>by
  obtain⟨f,hf,hx⟩:=UC.mp hx;exact(C.f f hf).2.2 x hx
 have kf:∀f∈fs,∀a∈f.as,Kn nm (t5 kn fs av) a:=fun f hf a ha=>⟨(C.f f hf).2.2 a ha,fun g=>(ig kn fs av a).mpr (.inr ⟨.inl (UC.mpr ⟨f,hf,ha⟩),g⟩)⟩
 have sz:=C.l;have s1:(bw ks fs).length<=fs.length:=P6 _ _
 have s2:(bG ks fs).length<=fs.length:=P6 _ _;have E7:=h.l1
 have vn:=h.l2;have Ox:=h.l3
 have Oy:=h.l4;refine⟨Bk.cG _ _ (Bk.cG _ _ h.nd),fun n hn=>?_,?_,fun f hf=>?_,fun f hf=>?_,fun f hf=>?_,by rw [OL];omega,by rw [OL];omega,?_,?_⟩
 ·rcases(ig kn fs av n).mp hn with z|⟨z|z,g⟩
  ·exact h.kg n z
  ·exact⟨g,yx n z⟩
  ·exact⟨g,pin n z⟩
 ·have old:∀A∈cl,∀a∈A,Kn nm (t5 kn fs av) a:=fun A hA a ha=>(h.ca A hA a ha).up mono
  rcases C.p with rfl|⟨a,ha,b,hb,rfl⟩
  ·exact old
  ·exact tN old ⟨ha,fun g=>(ig kn fs _ a).mpr (.inr ⟨.inr (by simp),g⟩)⟩ ⟨hb,fun g=>(ig kn fs _ b).mpr (.inr ⟨.inr (by simp),g⟩)⟩
 ·rcases OU.mp hf with z|z
  ·obtain⟨z1,z2,z3,z4⟩:=h.fb f (b1.1 f z)
   exact⟨z1,z2,fun a ha=>(z3 a ha).up mono,z4⟩
  ·obtain⟨z1,z2⟩:=Pl.mp z
   obtain⟨c1,c2,_⟩:=C.f f z1;rw [RR] at z2;exact⟨c1,c2,kf f z1,of_decide_eq_false z2⟩
 ·rcases OU.mp hf with z|z
  ·exact h.fo f z
  ·exact(C.f f (Pl.mp z).1).2.1
 ·rcases OU.mp hf with z|z
  ·exact h.Lg f z
  ·have w:=C.f f (Pl.mp z).1
   exact⟨w.1,w.2.2⟩
 ·rcases C.p with rfl|⟨a,ha,b,hb,rfl⟩
  ·show cl.length<=_;omega
  ·have:=(jU cl a b).2
   show(Un.merged cl a b).length<=_;omega
 ·rcases C.p with rfl|⟨a,ha,b,hb,rfl⟩
  ·show(cl.map QB).sum<=_;omega
  ·have:=(jU cl a b).1
   show((Un.merged cl a b).map QB).sum<=_;omega
section
variable {ks:List Kd} {nm:List Cs} {aj once:List Fc} {cl:List (List Cs)} {kn:List Cs} {i:Nat} {ρ:Cs->Cs}
theorem Du (sd:Un.Std great fN ρ cl) {x:Cs} (g:great x=false):ρ x=x:=by
 have r:=sd.rp x;have s:=Un.h8 sd.dj x
 rcases r.low with h|⟨h,_⟩
 ·exact sd.whole x _ r.mem _ s h g
 ·rw [h x s] at g;cases g
theorem qC (sd:Un.Std great fN ρ cl) (x:Cs):(∃A∈cl,x∈A/\ρ x∈A)\/ρ x=x:=by
 have r:=(sd.rp x).mem;rcases Un.cH sd.dj x with⟨A,hA,h1,h2⟩|⟨_,h2⟩
 ·rw [h2] at r;exact .inl ⟨A,hA,h1,r⟩
 ·rw [h2] at r;exact .inr (OK.mp r)
theorem qD (h:Sv ks nm aj once cl kn i) (sd:Un.Std great fN ρ cl) {x:Cs} (hx:x∉kn):ρ x=x:=by
 rcases qC sd x with⟨A,hA,h1,_⟩|e
 ·cases g:great x with
  | false=>exact Du sd g
  | true=>exact absurd ((h.ca A hA x h1).2 g) hx
 ·exact e
theorem Dv (h:Sv ks nm aj once cl kn i) (sd:Un.Std great fN ρ cl) (n:Cs) (g:great (ρ n)=true) (hn:n∈kn):ρ n∈kn:=by
 rcases qC sd n with⟨A,hA,_,h2⟩|e
 ·exact(h.ca A hA _ h2).2 g
 ·rw [e];exact hn
theorem w9 (h:Sv ks nm aj once cl kn i) (sd:Un.Std great fN ρ cl) {n:Cs} (hn:n∈nm):ρ n∈nm:=by
 rcases qC sd n with⟨A,hA,_,h2⟩|e
 ·exact(h.ca A hA _ h2).1
 ·rw [e];exact hn
theorem xc {st:bq} (h:bJ st=ρ):wr st=wf ρ:=funext fun f=>by unfold wr wf;rw [h]
theorem oO (ks:List Kd) (ρ:Cs->Cs) (fs:List Fc):bw ks (fs.map (wf ρ))=(bw ks fs).map (wf ρ):=by unfold bw;rw [List.filter_map];rfl
theorem oP (ks:List Kd) (ρ:Cs->Cs) (fs:List Fc):bG ks (fs.map (wf ρ))=(bG ks fs).map (wf ρ):=by unfold bG;rw [List.filter_map];rfl
theorem xe {ρ ρ':Cs->Cs} (h:∀x,ρ' (ρ x)=ρ' x) (f:Fc):wf ρ' (wf ρ f)=wf ρ' f:=by
 unfold wf;rw [Py];congr 1;exact Qv fun x _=>h x
theorem i9 (ρ:Cs->Cs) (aj once:List Fc) (kn:List Cs):∃P Q S,P.Perm (aj.map (wf ρ))/\Q.Perm (qz (once.map (wf ρ)))/\S.Perm (kn.map fun n=>(n,ρ n))/\t4 ρ aj once kn=df P Q S:=by
 obtain⟨P,p1,e1⟩:=lE (aj.map (wf ρ));obtain⟨Q,p2,e2⟩:=lE (qz (once.map (wf ρ)));obtain⟨S,p3,e3⟩:=wz (kn.map fun n=>(n,ρ n));exact⟨P,Q,S,p1,p2,p3,by unfold t4 df;rw [e1,e2,e3]⟩
theorem sD {ρ':Cs->Cs} {oQ fV:List Fc} {w8:List Cs} {P Q LP LQ:List Fc} {S bR:bq} (h1:eB (LP.map fT)=P.map fT) (h2:eB (m7 (LQ.map fT))=Q.map fT) (h3:eB (bR.map pT)=S.map pT) (p1:LP.Perm (oQ.map (wf ρ'))) (p2:∀f,f∈LQ↔f∈fV.map (wf ρ')) (p3:bR.Perm (w8.map fun n=>(n,ρ' n))):df P Q S=t4 ρ' oQ fV w8:=by
 obtain⟨gs,g1,g2,_,g4⟩:=Av LQ;obtain⟨d1,d2,_⟩:=mW (fV.map (wf ρ'));have pq:gs.Perm (qz (fV.map (wf ρ'))):=(Q8 g1 d1).mpr fun f=>by rw [g2,d2,p2]
 rw [g4] at h2;unfold df t4;rw [<- h1,<- h2,<- h3,qA (Lb _) (p1.map fT),qA (Lb _) (pq.map fT),qA (Nz _) (p3.map pT)]
theorem Dw (hkn:(ks.map (·.n)).Nodup) (h4:ks.length=4) (hn:∀a∈nm,iA a) (h7:nm.length=7) (h:Sv ks nm aj once cl kn i) (hi:i<=59) (sd:Un.Std great fN ρ cl) {ts fs tg:List Fc} {av:List (Cs × Cs)} (C:Ch ks nm aj ts fs av) (T:(ts=[]/\tg=[])\/∃f g,ts=[f]/\tg=[g]/\g.k=f.k/\wf ρ g=wf ρ f) {aV:List Fc} (hb:(ts=[]/\aV=aj)\/∃f,ts=[f]/\aj.Perm (f::aV)) (L:Live) :
  ∃r,dT [.lst (ks.map kT),t4 ρ aj once kn,.lst (tg.map fT),.lst (fs.map fT),.lst (av.map pT)] L=.ok r L/\((Un.mM great (AA cl av)/\r=ay)\/∃ρ',Un.Std great fN ρ' (AA cl av)/\r=t4 ρ' (aV++bw ks fs) (once++bG ks fs) (t5 kn fs av)):=by
 obtain⟨P,Q,S,pP,pQ,pS,e⟩:=i9 ρ aj once kn;have S0:Sd ρ kn S:=Sd.of pS h.nd fun x hx=>qD h sd hx
 have wS:=xc S0.rh;have kl:=h.kl h7
 have lP:P.length<=118:=by rw [pP.length_eq,Lm9];have:=h.l1;omega
 obtain⟨d1,d2,d3⟩:=mW (once.map (wf ρ));have lQ:Q.length<=118:=by rw [pQ.length_eq];rw [Lm9] at d3;have:=h.l2;omega
 have lS:S.length<=7:=by rw [pS.length_eq,Lm9];exact kl
 have l2:=C.l;have tw:tg.map (wf ρ)=ts.map (wf ρ)/\tg.length<=1/\∀g∈tg,∃f∈aj,g.k=f.k/\g.as.length=f.as.length:=by
  rcases T with⟨rfl,rfl⟩|⟨f,g,rfl,rfl,e1,e2⟩
  ·exact⟨rfl,by simp,fun g z=>by cases z⟩
  ·refine⟨by rw [OZ,OZ,e2],by simp,fun g' hg=>?_⟩
   rw [OK.mp hg];rcases C.t with z|⟨f',hf',z⟩
   ·cases z
   ·cases z
    refine⟨f,hf',e1,?_⟩;have:=congrArg (fun x:Fc=>x.as.length) e2
    simpa [wf] using this
 have bp:(aj.map (wf ρ)).Perm (ts.map (wf ρ)++aV.map (wf ρ)):=by
  rcases hb with⟨rfl,rfl⟩|⟨f,rfl,p⟩
  ·exact .refl _
  ·exact p.map _
 have lp:av.length<=1:=by rcases C.p with rfl|⟨a,_,b,_,rfl⟩ <;> simp
 have np:∀p∈av,p.1∈nm/\p.2∈nm:=fun p hp=>by
  rcases C.p with rfl|⟨a,ha,b,hb',rfl⟩
  ·cases hp
  ·rw [OK.mp hp];exact⟨ha,hb'⟩
 have mv:Mv ks P Q S tg fs av:={
  hn:=hkn
  hk:=by omega
  ft:=fun g hg=>by
   obtain⟨f,hf,e1,e2⟩:=tw.2.2 g hg;obtain⟨k,hk,q1,q2⟩:=(h.fb f hf).1;exact⟨k,hk,q1.trans e1.symm,by rw [e2];exact q2⟩
  ff:=fun f hf=>(C.f f hf).1
  tl:=fun g hg=>by
   obtain⟨f,hf,e1,_⟩:=tw.2.2 g hg;rw [e1];exact(h.fb f hf).2.2.2
  nd:=S0.nd
  sm:=fun e he=>by
   obtain⟨n,NC,rfl⟩:=OT.mp (pS.mem_iff.mp he);have:=(h.kg n NC).2
   exact⟨hn n this,hn _ (w9 h sd this)⟩
  K5:=by omega
  z1:=by omega
  z2:=by omega
  z3:=by omega
  z4:=by omega
  z5:=by omega
  a4:=fun f hf=>by
   have wl:∀(l:List Fc),(∀g∈l,g.as.length<=3)->f∈l.map (wf ρ)->f.as.length<=4:=fun l hl hm=>by
    obtain⟨g,hg,rfl⟩:=OT.mp hm;have:=hl g hg
    show(g.as.map ρ).length<=4;rw [Lm9];omega
   rcases OU.mp hf with z|z
   ·rcases OU.mp z with z|z
    ·exact wl aj (fun g hg=>(h.fb g hg).2.1) (pP.mem_iff.mp z)
    ·exact wl once h.fo ((d2 f).mp (pQ.mem_iff.mp z))
   ·rcases OU.mp z with z|z
    ·obtain⟨g,hg,_,e2⟩:=tw.2.2 f z
     have:=(h.fb g hg).2.1;omega
    ·have:=(C.f f z).2.1;omega
  nf:=fun f hf a ha=>hn a ((C.f f hf).2.2 a ha)
  np:=fun p hp=>⟨hn _ (np p hp).1,hn _ (np p hp).2⟩
  cnt:=fun f=>by
   rw [wS,tw.1,pP.count_eq,bp.count_eq,RV];omega }
 rw [e];obtain⟨r,hr,hm⟩:=zC ks P Q S tg fs av mv L;refine⟨r,hm,?_⟩;have S1:=S0.kn (fs.flatMap (·.as))
 have xf:∀{left:List Fc},(∀f,left.count f=P.count f - (tg.map (wr S)).count f)->left.Perm (aV.map (wf ρ)):=fun {left} hc=>List.perm_iff_count.mpr fun f=>by
  rw [hc,wS,tw.1,pP.count_eq,bp.count_eq,RV];omega
 unfold wC at hr;generalize hS1:fj S (fs.flatMap (·.as))=zM at S1 hr;rcases C.p with rfl|⟨a,ha,b,hb',rfl⟩
 ·rcases hr with⟨z,_⟩|⟨bR,left,P',Q',S',z,hc,_,e1,_,_,e2,_,e3,rfl⟩
  ·cases z
  ·cases z
   right;have Lh:=xc S1.rh
   refine⟨ρ,sd,?_⟩;refine sD e1 e2 e3 ?_ (fun f=>?_) (S1.perm (Bk.cG _ _ h.nd))
   ·show(left++_).Perm _
    rw [Lh,oO,Pe];exact(xf hc).append_right _
   ·show f∈Q++_↔_
    rw [Lh,oP,Pe,OU,OU,pQ.mem_iff,d2]
 ·have S2:=S1.kn [a,b]
  have ND:∀n∈ax [a,b] (ax (fs.flatMap (·.as)) kn),great n=true:=fun n hn'=>by
   rcases(Bk.bt _ n).mp hn' with z|z
   ·rcases(Bk.bt _ n).mp z with z|z
    ·exact(h.kg n z).1
    ·exact z.2
   ·exact z.2
  have gv:∀n,great (ρ n)=true->n∈ax [a,b] (ax (fs.flatMap (·.as)) kn)->ρ n∈ax [a,b] (ax (fs.flatMap (·.as)) kn):=fun n g hn'=>by
   by_cases z:n∈kn
   ·exact(Bk.bt _ _).mpr (.inl ((Bk.bt _ _).mpr (.inl (Dv h sd n g z))))
   ·rw [qD h sd z];exact hn'
  have ka:great a=true->a∈ax [a,b] (ax (fs.flatMap (·.as)) kn):=fun g=>(Bk.bt _ _).mpr (.inr ⟨by simp,g⟩)
  have kb:great b=true->b∈ax [a,b] (ax (fs.flatMap (·.as)) kn):=fun g=>(Bk.bt _ _).mpr (.inr ⟨by simp,g⟩)
  have et:bA zM [(a,b)]=if dG (ρ a) (ρ b) then none else some (bM (fj zM [a,b]) (ρ a) (ρ b)):=by
   show(if dG (bJ (fj zM [a,b]) a) (bJ (fj zM [a,b]) b) then none else some (bM (fj zM [a,b]) (bJ (fj zM [a,b]) a) (bJ (fj zM [a,b]) b)))=_;rw [S2.rh]
  rw [et] at hr;obtain⟨t1,t2⟩:=Un.tell ord sd a b;by_cases ht:dG (ρ a) (ρ b)
  ·rw [if_pos ht] at hr
   rcases hr with⟨_,rfl⟩|⟨bR,left,P',Q',S',z,_⟩
   ·exact .inl ⟨t1 ht,rfl⟩
   ·cases z
  ·rw [if_neg ht] at hr
   rcases hr with⟨z,_⟩|⟨bR,left,P',Q',S',z,hc,_,e1,_,_,e2,_,e3,rfl⟩
   ·cases z
   ·cases z
    right;have S3:=S2.tell ND gv ka kb ht
    have w3:=xc S3.rh;have JU:∀x,told great fN ρ a b (ρ x)=told great fN ρ a b x:=fun x=>Un.tG ord sd a b x
    refine⟨told great fN ρ a b,t2 ht,?_⟩;refine sD e1 e2 e3 ?_ (fun f=>?_) (S3.perm (Bk.cG _ _ (Bk.cG _ _ h.nd)))
    ·show(left.map _++_).Perm _
     rw [w3,oO,Pe];refine((xf hc).map _).append_right _ |>.trans ?_
     rw [Py,show(wf (told great fN ρ a b)) ∘ wf ρ=wf (told great fN ρ a b) from funext fun f=>xe JU f]
    ·show f∈Q.map _++_↔_
     rw [w3,oP,Pe,OU,OU];refine or_congr_left ?_;constructor
     ·intro z
      obtain⟨g,hg,rfl⟩:=OT.mp z;obtain⟨g0,NF,rfl⟩:=OT.mp ((d2 g).mp (pQ.mem_iff.mp hg));rw [xe JU];exact O9 NF
     ·intro z
      obtain⟨g,hg,rfl⟩:=OT.mp z;exact OT.mpr ⟨wf ρ g,pQ.mem_iff.mpr ((d2 _).mpr (O9 hg)),xe JU g⟩
end
def t1:ST:=eG (tv (aq aX [v 1]))
def s1:SS:=iff t1 (af [ret (v 1)]) (af [])
def s2:SS:=cw (src (vi 0 2)) (.one 2) (af [iff (tv (b2 (vi 2 0) (v 1) (cmp .Eq))) (af [ret (vi 2 1)]) (af [])])
def iD:y8:=fun xs L c=>xs.length=2/\y9 (y9 iH (y9 (za t1 true (y9 iH (jI (ret (v 1)) iH))) (za t1 false iH))) (jI s1 (y9 iH (jI s2 (y9 (rZ "NoName" [b1 (v 1) (y6 "not known in the pool: ")]) (jI j9 iH))))) (xs.map some++Pd 1 none) L c
def bx:Fn:=tD bh iD "NoName"
theorem xg (A B F:T) (S:bq) (x:Cs) (hx:1<=x.length) (L:Live):bh [.tup [A,B,.tup (S.map pT),F],.str x] L=(if great x=false then .ok (.str x) L else match gh S x with|some v=>.ok (.str v) L|none=>.bad)/\(great x=true->gh S x=none->∃o2,s2 [some (.tup [A,B,.tup (S.map pT),F]),some (.str x),none] L=.nx [some (.tup [A,B,.tup (S.map pT),F]),some (.str x),o2] L):=by
 have lp:great x=true->∃o,s2 [some (.tup [A,B,.tup (S.map pT),F]),some (.str x),none] L=o/\((∃v,gh S x=some v/\o=.rt (.str v) L)\/(gh S x=none/\∃o2,o=.nx [some (.tup [A,B,.tup (S.map pT),F]),some (.str x),o2] L)):=fun g=>by
  refine⟨_,rfl,?_⟩;unfold s2;simp_arith;generalize ho:forL _ _ _ _ _ _=o;exact dH ho S pT (fun r φ L'=>L'=L/\gh r x=gh S x/\∃o2,φ=[some (.tup [A,B,.tup (S.map pT),F]),some (.str x),o2]) (fun o=>(∃v,gh S x=some v/\o=.rt (.str v) L)\/(gh S x=none/\∃o2,o=.nx [some (.tup [A,B,.tup (S.map pT),F]),some (.str x),o2] L)) rfl ⟨rfl,rfl,none,rfl⟩ (fun _ _ eJ eP p r φ L' hh=>by
    obtain⟨rfl,h1,o2,rfl⟩:=hh;refine⟨sv,_,rfl,?_⟩;unfold gh at h1;rw [Qs] at h1;by_cases e:p.1=x
    ·rw [decide_eq_true e] at h1
     simp_arith [eJ,eP,e,beq_self_eq_true];exact .inl ⟨p.2,h1.symm,rfl⟩
    ·rw [decide_eq_false e] at h1
     simp_arith [eJ,eP,show(p.1 == x)=false from beq_eq_false_iff_ne.mpr e];exact⟨trivial,h1,_,rfl⟩) fun φ L' hh=>by
    obtain⟨rfl,h1,o2,rfl⟩:=hh;exact⟨sv,.inr ⟨h1.symm,o2,rfl⟩⟩
 constructor
 ·have e0:bh [.tup [A,B,.tup (S.map pT),F],.str x] L=M.run 2 3 (af [s1,s2,j9]) [.tup [A,B,.tup (S.map pT),F],.str x] L:=rfl
  rw [e0];cases g:great x with
  | false =>
   unfold s1 t1;simp_arith [dU x hx,g]
  | true =>
   obtain⟨o,h1,h2⟩:=lp g;rw [if_neg (by simp)];have e1:s1 [some (.tup [A,B,.tup (S.map pT),F]),some (.str x),none] L=.nx [some (.tup [A,B,.tup (S.map pT),F]),some (.str x),none] L:=by
    unfold s1 t1;simp_arith [dU x hx,g]
   rw [lq];simp only [OP,Pz,Uv,if_true,OZ,Qp,S4,QE,Pd,Uw,jK,e1,mL,h1];rcases h2 with⟨v,e,rfl⟩|⟨e,o2,rfl⟩
   ·rw [e]
    simp_arith
   ·rw [e]
    simp_arith;rfl
 ·intro g e
  obtain⟨o,h1,⟨v,z,_⟩|⟨_,o2,h2⟩⟩:=lp g
  ·rw [e] at z;cases z
  ·exact⟨o2,h1.trans h2⟩
theorem G1 {x:Cs} (h:cB x=true) (φ:Fr) (hφ:φ[1]?=some (some (.str x))) (L:Live):∃ts,d5 [b1 (v 1) (y6 "not known in the pool: ")] φ L=.ok ts L/\ts.length<=O6:=by
 have hl:=eX h;have cs:∀c∈x,c<16 ^ 8:=fun c hc=>(by decide +kernel:∀c∈lG,c<16 ^ 8) c (Aw (Bk.Am h c hc))
 have rl:=StrLaws.reprText_len ⟨x.toArray⟩ (by simpa using cs);have xl:(⟨x.toArray⟩:Str).length=x.length:=by simp [Str.length]
 rw [xl] at rl;have k1:(reprText ⟨x.toArray⟩).length<=1000:=by omega
 have k2:(QO++("not known in the pool: ":Str)++reprText ⟨x.toArray⟩).length<=1000000:=by
  rw [strLen_append,strLen_append];have:(QO:Str).length=0:=rfl
  have:("not known in the pool: ":Str).length=23:=by decide +kernel
  omega
 refine⟨[.str (QO++("not known in the pool: ":Str)++reprText ⟨x.toArray⟩).cps.toList],?_,by rw [P9];simp⟩;simp only [qh,qg,FN,DY,hφ,Rc,cF,aZ];show(bD _ _).bind _=_
 rw [aI ⟨k1,k2⟩];rfl
noncomputable def G2 (ρ:Cs->Cs) (kn:List Cs) (whole:Bool) (x:Cs):List Cs:=if great x=false then [x] else if whole=true/\x∈kn then [ρ x] else []
open Classical in
theorem xh (A B F:T) (S:bq) (ρ:Cs->Cs) (kn:List Cs) (w:Bool) (hs:∀x,great x=true->gh S x=if w=true/\x∈kn then some (ρ x) else none) (x:Cs) (hx:cB x=true) (L:Live):bx [.tup [A,B,.tup (S.map pT),F],.str x] L=.ok (.lst ((G2 ρ kn w x).map .str)) L:=by
 obtain⟨h1,h2⟩:=xg A B F S x (eX hx).1 L;unfold bx tD G2;simp only [h1];cases g:great x with
 | false =>
  simp only [if_true];rw [aI trivial];rfl
 | true =>
  rw [if_neg (by simp),if_neg (by simp)];have h2:=h2 g
  rw [hs x g] at h2 ⊢;by_cases hk:w=true/\x∈kn
  ·rw [if_pos hk,if_pos hk]
   simp only [];rw [aI trivial];rfl
  ·rw [if_neg hk] at h2 ⊢
   rw [if_neg hk];obtain⟨o2,e2⟩:=h2 rfl;simp only [];have e1:s1 [some (.tup [A,B,.tup (S.map pT),F]),some (.str x),none] L=.nx [some (.tup [A,B,.tup (S.map pT),F]),some (.str x),none] L:=by
    unfold s1 t1;simp_arith [dU x (eX hx).1,g]
   rw [aI ⟨rfl,.inr ⟨_,e1,.inr ⟨_,e2,.inl ⟨rfl,G1 hx _ rfl L⟩⟩⟩⟩];rfl
theorem G3 {aj once:List Fc} {cl:List (List Cs)} {kn:List Cs} (h:oM cl) (x:Cs) (hx:iA x) (L:Live):bo [nK aj once cl kn,.str x] L=.ok (.lst ((G2 (aA cl) kn (!dg cl) x).map .str)) L:=by
 unfold bo nK G2;have up:SJ ⟨[x.headD 0].toArray⟩=great x:=hx.2
 have fl:∀l:List Cs,fin L (.lst (l.map .str)) L=.ok (.lst (l.map .str)) L:=fun l=>fin_same (by rw [lt];exact fS l)
 have f0:=fl [];have f1:=fl [x]
 have f2:=fl [aA cl x];simp only [OZ,Qp] at f0 f1 f2;cases g:great x with
 | false =>
  simp_arith [lD (d4 hx).1,aH,pM,up,g,f1]
 | true =>
  simp_arith [lD (d4 hx).1,aH,pM,up,g,wQ h];cases ht:dg cl with
  | true=>simp_arith [f0];simp
  | false =>
   by_cases hk:x∈kn
   ·simp_arith [hk,decide_true,i8 h,f2];simp
   ·simp_arith [hk,decide_false,f0];simp
theorem cQ {f:T->T->Bool}:∀xs:List T,(∀x∈xs,f x x=true)->iO f xs xs=true
 | [],_=>rfl
 | x::xs,h=>by rw [iO,h x OI,cQ xs fun y hy=>h y (OG _ hy)];rfl
theorem dD:∀(n:Nat) (x:T),dat n x=true->mX n x x=true
 | 0,x,h=>by cases x <;> cases h
 | n+1,x,h=>by
  cases x with
  | tup xs=>exact cQ xs fun y hy=>dD n y (OD.mp h y hy)
  | lst xs=>exact cQ xs fun y hy=>dD n y (OD.mp h y hy)
  | bK=>rfl
  | bl b=>exact beq_self_eq_true b
  | int i=>exact beq_self_eq_true i
  | str s=>exact beq_self_eq_true s
  | _=>cases h
noncomputable def tP (x:T):Prop:=∃a b d t,x=.tup [a,b,d,.bl t]/\dat 8 x=true
theorem JV:tP ay:=⟨_,_,_,_,rfl,rfl⟩
theorem xi (a:Fc):dat 6 (fT a)=true:=by
 show(dat 5 (.str a.k) && ((a.as.map .str).all (dat 4) && true))=true;rw [lC,b8 (lC 3)];rfl
theorem JW (P Q:List Fc) (S:bq):tP (df P Q S):=by
 refine⟨_,_,_,_,rfl,?_⟩;show((P.map fT).all (dat 6) && ((Q.map fT).all (dat 6) && ((S.map pT).all (dat 6) && true)))=true
 rw [b8 xi,b8 xi,b8 fun p=>rfl];rfl
theorem tQ {x:T} (h:tP x) (L:Live):cf [x,x] L=.ok (.bl true) L:=by
 obtain⟨a,b,d,t,rfl,hd⟩:=h;have e1:∀L,AK [.tup [a,b,d,.bl t],.cl (.type "tuple")] L=.ok (.bl true) L:=fun _=>rfl
 have e2:∀L,AK [.bl t,.cl (.type "bool")] L=.ok (.bl true) L:=fun _=>rfl
 have e3:∀L,D5 (.tup [a,b,d,.bl t]) (.tup [a,b,d,.bl t]) L=.ok true L:=fun L=>by
  show bD _ _=_;rw [aI ⟨hd,hd⟩];show R.ok (mX 8 (.tup [a,b,d,.bl t]) (.tup [a,b,d,.bl t])) L=_
  rw [dD _ _ hd]
 unfold cf;simp_arith [e1,e2,e3,show(((4:Nat):Int) != 4)=false from rfl]
structure Fs (f:Fc):Prop where
 k:f.k.length<=12
 n:f.as.length<=3
 a:∀a∈f.as,a.length<=12
theorem xj:S ", "=[44,32]:=rfl
theorem G4:S "; "=[59,32]:=rfl
theorem xk {B:Nat}:∀{ls:List Cs},(∀l∈ls,l.length<=B)->(ls.map (·.length)).sum<=ls.length * B
 | [],_=>by simp
 | a::r,h=>by
  have h1:=h a OI;have h2:=xk (ls:=r) fun l hl=>h l (OG _ hl)
  rw [OZ,Sh,OP,Nat.succ_mul];omega
theorem Dx {sep:Cs} {zs:List Cs} {L:Live} (h:(zs.map (·.length)).sum+zs.length * sep.length<=16777216):da (.str sep) [.tup (zs.map .str)] L=.ok (.str (jn sep zs)) L:=by
 have:=mapM_map (f:=oU) (g:=T.str) (h:=id) (fun _=>rfl) zs;simp [da,items,vw,this,bD,h]
theorem join_B {sep:Cs} {B N:Nat} {zs:List Cs} (L:Live) (hB:∀l∈zs,l.length<=B) (hN:zs.length<=N) (hs:sep.length<=2) (h:N * (B+2)<=16777216):da (.str sep) [.lst (zs.map .str)] L=.ok (.str (jn sep zs)) L:=by
 refine wa ?_;have h1:=xk hB
 have h2:zs.length * sep.length<=zs.length * 2:=Nat.mul_le_mul_left _ hs;have h3:zs.length * (B+2)<=N * (B+2):=RZ _ hN
 rw [Nat.mul_add] at h3;omega
theorem qE {f:Fc} (h:Fs f):(aR f).length<=60:=by
 unfold aR;have h1:=h.k
 have h2:=h.n;have h3:=jN (sep:=[44]) h.a
 have h4:f.as.length * (12+1)<=3 * 13:=RZ _ h2;simp only [OP,Pz] at h3;split
 ·omega
 ·simp only [OL,OP,Pz];omega
theorem G5 {f:Fc} (h:Fs f) (L:Live):bW [fT f] L=.ok (.str (aR f)) L:=by
 have h1:=h.k;have h2:=h.n
 have h3:=jN (sep:=[44]) h.a;have h4:f.as.length * (12+1)<=3 * 13:=RZ _ h2
 simp only [OP,Pz] at h3;have hs:=xk h.a
 have ej:∀L,da (.str [44]) [.tup (f.as.map .str)] L=.ok (.str (jn [44] f.as)) L:=fun L=>Dx (by simp only [OP,Pz];omega)
 unfold bW aR;by_cases e:f.as=[]
 ·simp_arith [e,show(((0:Nat):Int) == 0)=true from rfl]
 ·have:((f.as.length:Int) == 0)=false:=by
   have:=Q5.mpr e;rw [beq_eq_false_iff_ne];omega
  rw [if_neg e];simp_arith [this,ej,OL,show f.k.length+1<=lim by(unfold lim;omega),show f.k.length+1+(jn [44] f.as).length<=lim by(unfold lim;omega),show f.k.length+1+(jn [44] f.as).length+1<=lim by(unfold lim;omega)]
theorem AD {fs:List Fc} (h:∀f∈fs,Fs f) (hl:fs.length<=900) {x:T} (hx:x=.lst (fs.map fT)\/x=.tup (fs.map fT)) (L:Live):cg [x] L=.ok (.str (jn [44,32] (fs.map aR))) L:=by
 have cm:comp true (src (v 0)) [none,none] (.one 1) yes (aq bW [v 1]) [some x] L=.ok (.lst (fs.map fun f=>.str (aR f))) L:=by
  refine bF (k:=stays x L) rfl fs fT (fun f=>.str (aR f)) ?_ ?_ (by unfold lim;omega) fun f hf=>?_
  ·rcases hx with rfl|rfl <;> rfl
  ·exact aJ
  ·simp_arith [G5 (h f hf)]
 unfold cg;simp_arith [cm,xj];rw [show(fs.map fun f=>T.str (aR f))=(fs.map aR).map T.str by rw [Py];rfl,join_B (B:=60) (N:=900) L (fun l hl=>by obtain⟨f,hf,rfl⟩:=OT.mp hl;exact qE (h f hf)) (by rw [Lm9];exact hl) (by decide) (by decide)];simp_arith
noncomputable def t6 (p:Cs × Cs):Cs:=(p.1++[61])++p.2
noncomputable def Li (P Q:List Fc) (S:bq):Cs:=jn [59,32] [jn [44,32] (P.map aR),jn [44,32] (Q.map aR),jn [44,32] ((S.filter fun p=>!(p.1 == p.2)).map t6)]
theorem AE {fs:List Fc} (h:∀f∈fs,Fs f) (hl:fs.length<=900) {i:Nat} {φ:Fr} {L:Live} {r:R T} {e:SE} (he:e φ L=.ok (.tup (fs.map fT)) L) (hc:comp true (src e) [none,none] (.one 1) yes (aq a8 [v 1]) φ L=r):r=.ok (.lst ((fs.map aR).map .str)) L:=by
 rw [bF (k:=stays (.tup (fs.map fT)) L) hc fs fT (fun f=>.str (aR f)) (by show(e φ L).bind _=_;rw [he];rfl) aJ (by unfold lim;omega) fun f hf=>by
  rw [show a8=bW from rfl];simp_arith [G5 (h f hf)],show(fs.map fun f=>T.str (aR f))=(fs.map aR).map T.str by rw [Py];rfl]
 rfl
structure Ps (P Q:List Fc) (S:bq):Prop where
 f:∀f∈P++Q,Fs f
 p:P.length<=200
 q:Q.length<=200
 s:S.length<=200
 a:∀p∈S,p.1.length<=12/\p.2.length<=12
theorem AF {S:bq} (hl:S.length<=200) (ha:∀p∈S,p.1.length<=12/\p.2.length<=12) {φ:Fr} {L:Live} {r:R T} {e:SE} (he:e φ L=.ok (.tup (S.map pT)) L) (hc:comp true (src e) [none,none] (.one 1) (tv (b2 (vi 1 0) (vi 1 1) (cmp .NotEq))) (b2 (b2 (vi 1 0) (c (.str [61])) (aw true .Add)) (vi 1 1) (aw true .Add)) φ L=r):r=.ok (.lst (((S.filter fun p=>!(p.1 == p.2)).map t6).map .str)) L:=by
 rw [dZ (k:=stays (.tup (S.map pT)) L) hc S pT (fun p=>!(p.1 == p.2)) (fun p=>.str (t6 p)) (by show(e φ L).bind _=_;rw [he];rfl) aJ (by unfold lim;omega) (fun p hp=>by simp_arith) fun p hp _=>by
  have:=ha p hp;simp_arith [OL,show p.1.length+1<=lim by(unfold lim;omega),show p.1.length+1+p.2.length<=lim by(unfold lim;omega)];rfl,show((S.filter fun p=>!(p.1 == p.2)).map fun p=>T.str (t6 p))=((S.filter fun p=>!(p.1 == p.2)).map t6).map T.str by rw [Py];rfl]
 rfl
theorem Ps.j {P Q:List Fc} {S:bq} (h:Ps P Q S) (L:Live):(da (.str [44,32]) [.lst (((P.map aR)).map .str)] L=.ok (.str (jn [44,32] (P.map aR))) L/\da (.str [44,32]) [.lst (((Q.map aR)).map .str)] L=.ok (.str (jn [44,32] (Q.map aR))) L/\da (.str [44,32]) [.lst (((S.filter fun p=>!(p.1 == p.2)).map t6).map .str)] L=.ok (.str (jn [44,32] ((S.filter fun p=>!(p.1 == p.2)).map t6))) L)/\∀l∈[jn [44,32] (P.map aR),jn [44,32] (Q.map aR),jn [44,32] ((S.filter fun p=>!(p.1 == p.2)).map t6)],l.length<=20000:=by
 have bP:∀l∈P.map aR,l.length<=60:=fun l hl=>by obtain⟨f,hf,rfl⟩:=OT.mp hl;exact qE (h.f f (Pu _ hf))
 have bQ:∀l∈Q.map aR,l.length<=60:=fun l hl=>by obtain⟨f,hf,rfl⟩:=OT.mp hl;exact qE (h.f f (Pn _ hf))
 have bS:∀l∈(S.filter fun p=>!(p.1 == p.2)).map t6,l.length<=60:=fun l hl=>by
  obtain⟨p,hp,rfl⟩:=OT.mp hl;have:=h.a p (Pl.mp hp).1
  unfold t6;simp only [OL,OP,Pz];omega
 have lS:((S.filter fun p=>!(p.1 == p.2)).map t6).length<=200:=by rw [Lm9];exact i5 h.s
 have lP:(P.map aR).length<=200:=by rw [Lm9];exact h.p
 have lQ:(Q.map aR).length<=200:=by rw [Lm9];exact h.q
 refine⟨⟨join_B L bP lP (by decide) (by decide),join_B L bQ lQ (by decide) (by decide),join_B L bS lS (by decide) (by decide)⟩,fun l hl=>?_⟩;have g:∀{zs:List Cs},(∀l∈zs,l.length<=60)->zs.length<=200->(jn [44,32] zs).length<=20000:=fun {zs} h1 h2=>by
  have h3:=jN (sep:=[44,32]) h1;have h4:zs.length * (60+2)<=200 * (60+2):=RZ _ h2
  simp only [OP,Pz] at h3;omega
 rcases OS.mp hl with rfl|hl
 ·exact g bP lP
 rcases OS.mp hl with rfl|hl
 ·exact g bQ lQ
 rw [OK.mp hl];exact g bS lS
theorem G6 {P Q:List Fc} {S:bq} (h:Ps P Q S) (L:Live):bu [df P Q S] L=.ok (.str (Li P Q S)) L:=by
 obtain⟨⟨j1,j2,j3⟩,j4⟩:=h.j L;have j5:=join_B (sep:=[59,32]) (N:=3) L j4 (OR 3) (by decide) (by decide)
 simp only [OZ,Qp] at j5;have hp:=h.p
 have hq:=h.q;unfold bu df;simp_arith;rw [AF h.s h.a (by simp_arith) rfl];simp_arith [AD (fs:=P) (fun f hf=>h.f f (Pu _ hf)) (by omega) (.inr rfl),AD (fs:=Q) (fun f hf=>h.f f (Pn _ hf)) (by omega) (.inr rfl),xj,j3,G4,j5];rfl
theorem G7 {P Q:List Fc} {S:bq} (h:Ps P Q S) (L:Live):aS [df P Q S] L=.ok (.str (Li P Q S)) L:=by
 have hp:=h.p;have hq:=h.q
 unfold aS df;simp_arith;rw [AE (fs:=P) (i:=0) (fun f hf=>h.f f (Pu _ hf)) (by omega) (by simp_arith) rfl];obtain⟨⟨j1,j2,j3⟩,j4⟩:=h.j L;simp_arith [xj,j1];rw [AE (fs:=Q) (i:=0) (fun f hf=>h.f f (Pn _ hf)) (by omega) (by simp_arith) rfl];obtain⟨⟨_,j2,_⟩,_⟩:=h.j (.lst [.str (jn [44,32] (P.map aR))]::L);simp_arith [xj,j2,show 1<lim by decide];rw [AF h.s h.a (by simp_arith) rfl];obtain⟨⟨_,_,j3⟩,_⟩:=h.j (.lst [.str (jn [44,32] (P.map aR)),.str (jn [44,32] (Q.map aR))]::L);simp_arith [xj,j3,G4,show 2<lim by decide];have j5:=join_B (sep:=[59,32]) (N:=3) (.lst [.str (jn [44,32] (P.map aR)),.str (jn [44,32] (Q.map aR)),.str (jn [44,32] ((S.filter fun p=>!(p.1 == p.2)).map t6))]::L) j4 (OR 3) (by decide) (by decide)
 simp only [OZ,Qp] at j5;have j6:∀(xs:List T),da (.str [59,32]) [.ref L.length] (.lst xs::L)=da (.str [59,32]) [.lst xs] (.lst xs::L):=fun xs=>by
  unfold da;simp only [items,fH,dq,de];rfl
 rw [j6,j5];simp_arith;exact ic rfl
theorem AG (L:Live):bu [ay] L=.ok (.str (M.S "broken")) L/\aS [ay] L=.ok (.str (M.S "broken")) L:=by
 unfold bu aS ay;constructor <;> simp_arith
theorem xo (ks:List Kd) (ts fs:List Fc) (x:T) (hn:(ks.map (·.n)).Nodup) (hk:ks.length<=100) (ft:∀f∈ts,aK ks f) (ff:∀f∈fs,aK ks f) (tl:∀f∈ts,f.k∉(ks.filter (·.l)).map (·.n)) (L:Live):dT [.lst (ks.map kT),ay,.lst (ts.map fT),.lst (fs.map fT),x] L=.ok ay L:=by
 unfold dT;simp_arith [cP ks ts (.lst (ks.map kT)) L rfl hn (by omega) ft,cP ks fs (.lst (ks.map kT)) L rfl hn (by omega) ff];rw [dZ rfl ks kT (·.l) (fun k=>.str k.n) (by exact rfl) (by exact aJ) (by unfold lim;omega) (by exact fun b _=>by simp_arith) (by exact fun b _ _=>by simp_arith)];have Hs:((ks.filter (·.l)).map fun k=>T.str k.n)=((ks.filter (·.l)).map (·.n)).map T.str:=by simp
 unfold ay;simp_arith [Hs,fU _ ts tl];exact fin_same (by simp [lt,iQ])
structure Gv (ks:List Kd) (nm:List Cs):Prop where
 k4:ks.length=4
 nd:(ks.map (·.n)).Nodup
 kn:∀k∈ks,cB k.n=true/\k.c<=3
 n7:nm.length=7
 nn:∀a∈nm,cB a=true
section
variable {ks:List Kd} {nm:List Cs} {aj once:List Fc} {cl:List (List Cs)} {kn:List Cs} {i:Nat} {F:T}
theorem Gv.nk (G:Gv ks nm):∀a∈nm,iA a:=fun a ha=>Nv (G.nn a ha)
noncomputable def tR (aj once:List Fc) (cl:List (List Cs)) (kn:List Cs) (F:T):Prop:=(∃ρ,Un.Std great fN ρ cl/\F=t4 ρ aj once kn)\/(Un.mM great cl/\F=ay)
theorem oR {ρ:Cs->Cs} (s:Un.Std great fN ρ cl):dg cl=false:=by
 rw [<- Bool.not_eq_true,jS];rintro⟨A,hA,h⟩;exact h (s.wh A hA)
theorem tR.pl (h:tR aj once cl kn F):tP F:=by
 rcases h with⟨ρ,s,rfl⟩|⟨_,rfl⟩
 ·obtain⟨P,Q,S,_,_,_,e⟩:=i9 ρ aj once kn
  rw [e];exact JW P Q S
 ·exact JV
theorem tR.NH (h:tR aj once cl kn F):(if dg cl=true then ay else t4 (aA cl) aj once kn)=F:=by
 rcases h with⟨ρ,s,rfl⟩|⟨t,rfl⟩
 ·rw [oR s,if_neg (by simp),qy s]
 ·rw [if_pos ((jS cl).mpr t)]
theorem xp (G:Gv ks nm) (V:Sv ks nm aj once cl kn i) (hi:i<=59) (h:tR aj once cl kn F) {x:Cs} (hx:x∈nm) (L:Live):∃l:List Cs,bx [F,.str x] L=.ok (.lst (l.map .str)) L/\bo [nK aj once cl kn,.str x] L=.ok (.lst (l.map .str)) L:=by
 have hc:=V.cl G.nk hi;refine⟨G2 (aA cl) kn (!dg cl) x,?_,G3 hc x (G.nk x hx) L⟩;rcases h with⟨ρ,s,rfl⟩|⟨t,rfl⟩
 ·obtain⟨P,Q,S,pP,pQ,pS,e⟩:=i9 ρ aj once kn
  have S0:Sd ρ kn S:=Sd.of pS V.nd fun x hx=>qD V s hx
  rw [e,oR s,qy s];exact xh _ _ _ S ρ kn true (fun y _=>by
   rcases oN (st:=S) (x:=y) with⟨v,h1,h2,h3⟩|⟨h1,h2,_⟩
   ·rw [h1,if_pos ⟨rfl,(S0.ks y).mp (O9 h2)⟩,<- h3,S0.rh]
   ·rw [h1,if_neg fun z=>h2 ((S0.ks y).mpr z.2)]) x (G.nn x hx) L
 ·rw [(jS cl).mpr t]
  exact xh _ _ _ [] (aA cl) kn false (fun y _=>by rw [if_neg (by simp)];rfl) x (G.nn x hx) L
theorem xq {ts fs:List Fc} {av:List (Cs × Cs)} (C:Ch ks nm aj ts fs av) (t:Un.mM great cl):Un.mM great (AA cl av):=by
 rcases C.p with rfl|⟨a,_,b,_,rfl⟩
 ·exact t
 ·exact Un.qm a b t
theorem JX (G:Gv ks nm) (V:Sv ks nm aj once cl kn i) (hi:i<=59) (h:tR aj once cl kn F) {ts fs tg:List Fc} {av:List (Cs × Cs)} (C:Ch ks nm aj ts fs av) (T:(ts=[]/\tg=[])\/∃f g,ts=[f]/\tg=[g]/\g.k=f.k/\wf (aA cl) g=wf (aA cl) f) {aV:List Fc} (hb:(ts=[]/\aV=aj)\/∃f,ts=[f]/\aj.Perm (f::aV)) (L:Live) :
  ∃F',dT [.lst (ks.map kT),F,.lst (tg.map fT),.lst (fs.map fT),.lst (av.map pT)] L=.ok F' L/\tR (aV++bw ks fs) (once++bG ks fs) (AA cl av) (t5 kn fs av) F':=by
 rcases h with⟨ρ,s,rfl⟩|⟨t,rfl⟩
 ·rw [qy s] at T
  obtain⟨r,h1,h2⟩:=Dw G.nd G.k4 G.nk G.n7 V hi s C T hb L;exact⟨r,h1,h2.symm⟩
 ·refine⟨ay,xo ks tg fs _ G.nd (by rw [G.k4];decide) ?_ (fun f hf=>(C.f f hf).1) ?_ L,.inr ⟨xq C t,rfl⟩⟩
  ·intro g hg
   rcases T with⟨_,rfl⟩|⟨f,g',rfl,rfl,e1,e2⟩
   ·cases hg
   ·rw [OK.mp hg]
    rcases C.t with z|⟨f',hf',z⟩
    ·cases z
    ·cases z
     obtain⟨k,hk,h1,h2⟩:=(V.fb f hf').1;have:=congrArg (fun z:Fc=>z.as.length) e2
     simp only [wf,Lm9] at this;exact⟨k,hk,h1.trans e1.symm,this.trans h2⟩
  ·intro g hg
   rcases T with⟨_,rfl⟩|⟨f,g',rfl,rfl,e1,e2⟩
   ·cases hg
   ·rw [OK.mp hg]
    rcases C.t with z|⟨f',hf',z⟩
    ·cases z
    ·cases z
     rw [e1];exact(V.fb f hf').2.2.2
theorem xr (G:Gv ks nm) {f:Fc} (h:aK ks f):f.k.length<=12:=by
 obtain⟨k,hk,e,_⟩:=h;rw [<- e];exact(eX (G.kn k hk).1).2
theorem zN (G:Gv ks nm) (V:Sv ks nm aj once cl kn i) (hi:i<=59) (h:tR aj once cl kn F) (L:Live):∃z:Cs,bu [F] L=.ok (.str z) L/\aS [F] L=.ok (.str z) L:=by
 rcases h with⟨ρ,s,rfl⟩|⟨t,rfl⟩
 ·obtain⟨P,Q,S,pP,pQ,pS,e⟩:=i9 ρ aj once kn
  rw [e];have rl:∀a∈nm,(ρ a).length<=12:=fun a ha=>(eX (G.nn _ (w9 V s ha))).2
  obtain⟨d1,d2,d3⟩:=mW (once.map (wf ρ));have l1:=V.l1
  have l2:=V.l2;have kl:=V.kl G.n7
  have H:Ps P Q S:=by
   refine⟨fun f hf=>?_,by rw [pP.length_eq,Lm9];omega,by rw [pQ.length_eq];rw [Lm9] at d3;omega,by rw [pS.length_eq,Lm9];omega,fun p hp=>?_⟩
   ·rcases OU.mp hf with z|z
    ·obtain⟨g,hg,rfl⟩:=OT.mp (pP.mem_iff.mp z)
     obtain⟨h1,h2,h3,_⟩:=V.fb g hg;exact⟨(show g.k.length<=12 from xr G h1),by simpa [wf] using h2,fun a ha=>by obtain⟨b,hb,rfl⟩:=OT.mp ha;exact rl b (h3 b hb).1⟩
    ·obtain⟨g,hg,rfl⟩:=OT.mp ((d2 f).mp (pQ.mem_iff.mp z))
     obtain⟨h1,h3⟩:=V.Lg g hg;exact⟨(show g.k.length<=12 from xr G h1),by simpa [wf] using V.fo g hg,fun a ha=>by obtain⟨b,hb,rfl⟩:=OT.mp ha;exact rl b (h3 b hb)⟩
   ·obtain⟨n,hn,rfl⟩:=OT.mp (pS.mem_iff.mp hp)
    have:=(V.kg n hn).2;exact⟨(eX (G.nn n this)).2,rl n this⟩
  exact⟨_,G6 H L,G7 H L⟩
 ·exact⟨_,(AG L).1,(AG L).2⟩
end
def Hx:SS:=af [asg (.one 9) (b2 (v 2) (b2 (aq au [v 8,c (.int 1)]) (c (.int 7)) (aw true .Mod)) ix),iff (tv (b2 (aq bx [v 6,v 9]) (aq bo [v 4,v 9]) DQ)) (af [ret (c (.bl false))]) (af []),asg (.one 10) (aq cM [v 1,v 2,v 3,v 4,v 8]),asg (.one 11) (vi 4 3),asg (.one 12) (comp true (src (v 2)) [none,none,some 11] (.one 1) (sZ [tv (b2 (v 1) (v 2) (cmp .In)),eG (tv (aY (aH) (vi 1 0) []))]) (v 1)),asg (.one 13) (comp true (src (vi 10 0)) [none,none,some 8,some 12,some 4] (.one 1) yes (aq bg [vi 4 2,v 3,v 1,aq au [v 2,c (.int 3)]])),asg (.one 4) (aq cL [v 1,v 4,v 10]),asg (.one 5) (aq dQ [vi 4 0,vi 4 1,vi 4 2,vi 4 3]),asg (.one 6) (aq dT [v 1,v 6,v 13,vi 10 1,vi 10 2]),ja (aY (aW) (v 7) [tup [v 6,v 5]])]
def lH:Fn:=run 1 15 (af [asg (.one 1) (aq dw [aq ai [v 0,c (.int 0)],lst true [c (.int 0),c (.int 1),c (.int 2),c (.int 2),c (.int 1),c (.int 3)]]),asg (.one 2) (b2 (aq dz [aq ai [v 0,c (.int 1)],c (.int 5)]) (aq dA [aq ai [v 0,c (.int 2)],c (.int 2)]) (aw true .Add)),asg (.one 3) (b2 (c (.int 1)) (b2 (aq ai [v 0,c (.int 3)]) (c (.int 2)) (aw true .Mod)) (aw true .Add)),asg (.one 4) (tup [lst true [],lst true [],lst true [],lst true []]),asg (.one 5) (tup [tup [],tup [],tup [],c (.bl false)]),asg (.one 6) (tup [tup [],tup [],tup [],c (.bl false)]),asg (.one 7) (lst false []),cw (src (sl true (v 0) (some (c (.int 4))) (some (c (.int 84))))) (.one 8) Hx,cw (src (v 7)) (.one 14) (af [iff (eG (tv (aq cf [vi 14 0,vi 14 1]))) (af [ret (c (.bl false))]) (af [])]),ret (b2 (aq bu [v 6]) (aq aS [v 5]) (cmp .Eq))])
noncomputable def AH (ns:List Int) (ks:List Kd) (nm:List Cs) (w:Nat) (aj once:List Fc) (cl:List (List Cs)) (kn:List Cs) (F:T) (n:Nat) (a b d e f g:Option T):Fr:=[some (.lst (ns.map .int)),some (.lst (ks.map kT)),some (.lst (nm.map .str)),some (.int (w:Nat)),some (nK aj once cl kn),some F,some F,some (.ref n),a,b,d,e,f,g,none]
noncomputable def zT (zs:List T):T:=.lst (zs.map fun z=>.tup [z,z])
theorem G8 (cs:List Int) (L:Live) (h:cs.length<=63):∃Lj:List Int,Lj.length<=59/\oX true (.lst (cs.map .int)) (some 4) (some 84) L=.ok (.lst (Lj.map .int)) L:=by
 have e:cut (cs.map T.int) (some 4) (some 84)=(cut cs (some 4) (some 84)).map T.int:=by
  unfold cut;rw [Lm9,Uq,Vq]
 have hl:(cut cs (some (4:Int)) (some 84)).length<=59:=by
  unfold cut clip;rw [Qd,PN];simp only [];rw [if_neg (by decide),if_neg (by decide)];omega
 refine⟨cut cs (some 4) (some 84),hl,?_⟩;show eE true (cut (cs.map .int) (some 4) (some 84)) L=_
 rw [e,eE,aI (by rw [Lm9];unfold lim;omega)];rfl
theorem JY (l:List Cs) (L:Live):DQ (.lst (l.map .str)) (.lst (l.map .str)) L=.ok (.bl false) L:=by
 unfold DQ;simp only [];rw [mapM_map (f:=oU) (g:=T.str) (h:=id) (fun _=>rfl) l];simp
theorem NI {aj once:List Fc} {cl:List (List Cs)} {kn:List Cs} {L:Live}:ix (nK aj once cl kn) (.int 0) L=.ok (.lst (aj.map fT)) L:=rfl
theorem zM {aj once:List Fc} {cl:List (List Cs)} {kn:List Cs} {L:Live}:ix (nK aj once cl kn) (.int 1) L=.ok (.lst (once.map fT)) L:=rfl
theorem bR {aj once:List Fc} {cl:List (List Cs)} {kn:List Cs} {L:Live}:ix (nK aj once cl kn) (.int 2) L=.ok (.lst (cl.map cu)) L:=rfl
theorem xy {aj once:List Fc} {cl:List (List Cs)} {kn:List Cs} {L:Live}:ix (nK aj once cl kn) (.int 3) L=.ok (.lst (kn.map .str)) L:=rfl
theorem NJ {ts fs:List Fc} {av:List (Cs × Cs)} {L:Live}:ix (tM ts fs av) (.int 1) L=.ok (.lst (fs.map fT)) L:=rfl
theorem NK {ts fs:List Fc} {av:List (Cs × Cs)} {L:Live}:ix (tM ts fs av) (.int 2) L=.ok (.lst (av.map pT)) L:=rfl
theorem zO {a:Cs} {kn:List Cs} (h:iA a) {L:Live}:sZ [tv (b2 (v 1) (v 2) (cmp .In)),eG (tv (aY (aH) (vi 1 0) []))] [none,some (.str a),some (.lst (kn.map .str))] L=.ok (decide (a∈kn) || !great a) L:=by
 by_cases hk:a∈kn
 ·simp_arith [hk,decide_true]
  rfl
 ·simp_arith [hk,decide_false,lD (d4 h).1,aH,pM,show SJ ⟨[a.headD 0].toArray⟩=great a from h.2]
  cases great a <;> rfl
theorem G9 {ns:List Int} {ks:List Kd} {nm:List Cs} (G:Gv ks nm) {w:Nat} (hw:w=1\/w=2) {aj once:List Fc} {cl:List (List Cs)} {kn:List Cs} {F:T} {i:Nat} (hi:i<59) (V:Sv ks nm aj once cl kn i) (h:tR aj once cl kn F) (zs:List T) (hz:zs.length<=59) (ci:Int) {b d e f g:Option T} (L:Live) :
  ∃oQ fV Ha w8 F' b' d' e' f' g',Sv ks nm oQ fV Ha w8 (i+1)/\tR oQ fV Ha w8 F'/\Hx (AH ns ks nm w aj once cl kn F L.length (some (.int ci)) b d e f g) (zT zs::L)=.nx (AH ns ks nm w oQ fV Ha w8 F' L.length (some (.int ci)) b' d' e' f' g') (zT (zs++[F'])::L):=by
 obtain⟨n,hn,oJ⟩:=lF ci 1 (by decide);have HM:∀L,au [.int ci,.int 1] L=.ok (.int (n:Nat)) L:=oJ
 clear oJ;obtain⟨q,hq,oJ⟩:=lF ci 3 (by decide);have NL:∀L,au [.int ci,.int 3] L=.ok (.int (q:Nat)) L:=oJ
 clear oJ;have n7:=G.n7
 have hj:n % 7<nm.length:=by omega
 have ei:∀L,ix (.lst (nm.map .str)) (.int ((n:Int) % 7)) L=.ok (.str (nm.getD (n % 7) [])) L:=fun L=>bf (i:=n % 7) (by simp [Gd9,hj])
 have xm:nm.getD (n % 7) []∈nm:=by
  rw [Gd9,Ge9 hj];exact OV hj
 generalize nm.getD (n % 7) []=x at ei xm;obtain⟨l,t1,t2⟩:=xp G V (by omega) h xm (zT zs::L);obtain⟨ts,fs,av,C,ec⟩:=wW ks nm w aj once cl kn ci G.k4 (fun k hk=>(G.kn k hk).2) G.n7 hw (zT zs::L);have hc:=V.cl G.nk (by omega)
 have kl:=V.kl G.n7;unfold Hx AH;simp_arith [HM,ei,t1,t2,JY,ec,xy];rw [dZ rfl nm T.str (fun a=>decide (a∈kn) || !great a) T.str (by exact rfl) (by exact aJ) (by unfold lim;omega) (by exact fun a ha=>zO (G.nk a ha)) (by exact fun a _ _=>rfl)];simp_arith;have ll:(nm.filter fun a=>decide (a∈kn) || !great a).length<=7:=i5 (by omega)
 generalize nm.filter (fun a=>decide (a∈kn) || !great a)=lk at ll;generalize Lk:comp _ _ _ _ _ _ _ _=r;obtain⟨tg,T,rfl⟩:∃tg:List Fc,((ts=[]/\tg=[])\/∃f g,ts=[f]/\tg=[g]/\g.k=f.k/\wf (aA cl) g=wf (aA cl) f)/\r=.ok (.lst (tg.map fT)) (zT zs::L):=by
  rcases C.t with rfl|⟨f,hf,rfl⟩
  ·refine⟨[],.inl ⟨rfl,rfl⟩,?_⟩
   exact bF Lk ([]:List Fc) fT fT (by exact rfl) (by exact aJ) (by decide) fun f hf=>by cases hf
  ·obtain⟨g,g1,g2,_,g3⟩:=zJ hc lk f q (by omega) (by have:=(V.fb f hf).2.1;omega) (zT zs::L)
   refine⟨[g],.inr ⟨f,g,rfl,rfl,g1,g2⟩,?_⟩;exact bF Lk [f] fT (fun _=>fT g) (by exact rfl) (by exact aJ) (show 1<=lim by decide) fun f' hf'=>by
    rw [OK.mp hf'];simp_arith [bR,NL,g3]
 have l1:=V.l1;have l2:=V.l2
 obtain⟨aV,hb,eb⟩:=wZ ks G.nd nm G.nk aj once cl kn ts fs av C hc (by omega) (by omega) (by omega) (zT zs::L);have V':=V.next C hb
 have hc':=V'.cl G.nk (by omega);have l1':=V'.l1
 have Oz:=V'.l2;have OA:=V'.kl G.n7
 obtain⟨F',em,h'⟩:=JX G V (by omega) h C T hb (zT zs::L);have ep:=Ds hc' (aV++bw ks fs) (once++bG ks fs) (t5 kn fs av) (by omega) (by omega) (by omega) (fun f hf=>by
  rcases OU.mp hf with z|z
  ·exact Pq (V'.fb f z).2.1 (by decide)
  ·exact Pq (V'.fo f z) (by decide)) (zT zs::L)
 rw [h'.NH] at ep;simp_arith [eb,NI,zM,bR,xy,ep,em,NJ,NK];refine⟨aV++bw ks fs,once++bG ks fs,AA cl av,t5 kn fs av,F',some (.str x),some (tM ts fs av),some (.lst (kn.map .str)),some (.lst (lk.map .str)),some (.lst (tg.map fT)),V',h',?_⟩;unfold zT;simp_arith [show zs.length<lim by(unfold lim;omega),Pe]
theorem NM (ks:List Kd) (nm:List Cs):Sv ks nm [] [] [] [] 0:=⟨Rk,fun _ z=>(by cases z),fun _ z=>(by cases z),fun _ z=>(by cases z),fun _ z=>(by cases z),fun _ z=>(by cases z),OR 0,OR 0,OR 0,OR 0⟩
theorem NN:t4 id [] [] []=.tup [.tup [],.tup [],.tup [],.bl false]:=by
 have h:eB []=[]:=(fI (l:=[]) fun _ z=>by cases z).1.eq_nil;show M.T.tup [.tup (eB []),.tup (eB []),.tup (eB []),.bl false]=_
 rw [h]
theorem JZ:tR [] [] [] [] (.tup [.tup [],.tup [],.tup [],.bl false]):=.inl ⟨id,Un.Ja fN ord.pF,NN.symm⟩
theorem xu (ns:List Int) (IY:ns.length<=63):∃L',lH [.lst (ns.map .int)] []=.ok (.bl true) L':=by
 have hc:∀(k:Nat) L,ai [.lst (ns.map .int),.int (k:Nat)] L=.ok (.int (ns.getD k 0)) L:=fun k L=>Dk ns k L
 have c0:∀L,ai [.lst (ns.map .int),.int 0] L=.ok (.int (ns.getD 0 0)) L:=hc 0;have c1:∀L,ai [.lst (ns.map .int),.int 1] L=.ok (.int (ns.getD 1 0)) L:=hc 1
 have c2:∀L,ai [.lst (ns.map .int),.int 2] L=.ok (.int (ns.getD 2 0)) L:=hc 2;have c3:∀L,ai [.lst (ns.map .int),.int 3] L=.ok (.int (ns.getD 3 0)) L:=hc 3
 obtain⟨ks,k1,k2,k3,k4⟩:=zF (ns.getD 0 0);obtain⟨os,o1,_,o3,o4⟩:=zD (ns.getD 1 0);obtain⟨ws,w1,w3,w4⟩:=zE (ns.getD 2 0);have G:Gv ks (os++ws):=⟨k1,k2,k3,by rw [OL];omega,fun a ha=>(OU.mp ha).elim (fun z=>(o3 a z).1) fun z=>(w3 a z).1⟩
 obtain⟨w,hw,ew⟩:∃w:Nat,(w=1\/w=2)/\(1:Int)+ns.getD 3 0 % 2=(w:Nat):=by
  rcases(show ns.getD 3 0 % 2=0\/ns.getD 3 0 % 2=1 by omega) with e|e
  ·exact⟨1,.inl rfl,by rw [e];rfl⟩
  ·exact⟨2,.inr rfl,by rw [e];rfl⟩
 have ea:os.map T.str++ws.map T.str=(os++ws).map T.str:=by simp
 have l7:os.length+ws.length<=lim:=by unfold lim;omega
 obtain⟨cs,Eo,es⟩:=G8 ns (zT []::[]) IY;simp only [zT,Qp] at es;unfold lH;simp_arith [c0,c1,c2,c3,k4,o4,w4,ew,ea,OL,l7,show(0:Int)<2 by decide,es];generalize ho:forL _ _ _ _ _ _=o;have hh:=dH ho cs T.int (fun r φ L'=>∃aj once cl kn F i zs a b d e f g,Sv ks (os++ws) aj once cl kn i/\tR aj once cl kn F/\i+r.length<=59/\zs.length<=i/\(∀z∈zs,tP z)/\φ=AH ns ks (os++ws) w aj once cl kn F 0 a b d e f g/\L'=[zT zs])
  (fun o=>∃aj once cl kn F i zs a b d e f g,Sv ks (os++ws) aj once cl kn i/\tR aj once cl kn F/\i<=59/\zs.length<=i/\(∀z∈zs,tP z)/\o=.nx (AH ns ks (os++ws) w aj once cl kn F 0 a b d e f g) [zT zs]) rfl
  ⟨[],[],[],[],_,0,[],none,none,none,none,none,none,NM _ _,JZ,by omega,OR 0,fun _ z=>(by cases z),rfl,rfl⟩ (fun _ _ eJ eP ci r φ L' hh=>by
   obtain⟨aj,once,cl,kn,F,i,zs,a,b,d,e,f,g,V,h,hi,hz,hp,rfl,rfl⟩:=hh;rw [OP] at hi;obtain⟨oQ,fV,Ha,w8,F',b',d',e',f',g',V',h',eb⟩:=G9 (ns:=ns) G hw (show i<59 by omega) V h zs (by omega) ci (b:=b) (d:=d) (e:=e) (f:=f) (g:=g) [];refine⟨sv,AH ns ks (os++ws) w aj once cl kn F 0 (some (.int ci)) b d e f g,rfl,?_⟩;rw [show Hx (AH ns ks (os++ws) w aj once cl kn F 0 (some (.int ci)) b d e f g) [zT zs]=_ from eb,oy,eJ];exact⟨oQ,fV,Ha,w8,F',i+1,zs++[F'],some (.int ci),b',d',e',f',g',V',h',by omega,by rw [OL,PM];omega,fun z hz=>(OU.mp hz).elim (hp z) fun y=>by rw [OK.mp y];exact h'.pl,rfl,rfl⟩) fun φ L' hh=>by
   obtain⟨aj,once,cl,kn,F,i,zs,a,b,d,e,f,g,V,h,hi,hz,hp,rfl,rfl⟩:=hh;exact⟨sv,aj,once,cl,kn,F,i,zs,a,b,d,e,f,g,V,h,by simpa using hi,hz,hp,rfl⟩
 obtain⟨aj,once,cl,kn,F,i,zs,a,b,d,e,f,g,V,h,hi,hz,hp,rfl⟩:=hh;clear ho;unfold AH zT;obtain⟨z,z1,z2⟩:=zN G V hi h [zT zs];unfold zT at z1 z2;have a0:∀t:T,at_ [t] 0=some t:=fun t=>dq (L:=[])
 simp_arith [a0];generalize ho:forL _ _ _ _ _ _=o;obtain⟨Ll,rfl⟩:=mO zs (fun z=>T.tup [z,z]) (fun Ll=>[some (.lst (ns.map .int)),some (.lst (ks.map kT)),some (.lst ((os++ws).map .str)),some (.int (w:Nat)),some (nK aj once cl kn),some F,some F,some (.ref 0),a,b,d,e,f,g,Ll]) ho aJ (fun _ _=>rfl) fun y hy=>by
  simp_arith [tQ (hp y hy)]
 simp_arith [z1,z2];exact⟨[],ic rfl⟩
end D1
end
namespace D1
open PySem M
set_option maxHeartbeats 4000000
def G0:Ct:=⟨[],[("GREAT",mP),("BROKEN",ay)],[],[],["len","list","tuple","min","isinstance","range","sorted","set","dict","bool"],[(77,13),(80,11),(151,16),(157,15),(177,16),(194,16),(221,16),(229,15),(235,19),(245,15),(248,16),(270,16),(281,16)]⟩
def ds:List Df:=.f false "_law_known" 2 33 bB :: .f false "_law_lasts" 2 34 du :: .f false "_law_merged" 2 36 cK :: .f false "_law_behind" 3 45 cL :: .f false "_law_cell_at" 2 25 ai :: .f false "_law_mix" 2 26 au :: .f false "_law_fact" 3 32 cU :: .f false "_law_change" 5 44 cM :: .f false "_law_stand" 2 35 aD :: .f false "_law_torn" 1 37 cV :: .f false "_law_due_name" 2 46 bo :: .f false "_law_is_pool" 2 40 cf :: .f false "_law_names" 3 27 aN :: .f false "_law_titles" 2 28 cN :: .f false "_law_kinds" 2 31 dw :: .f false "_law_opens" 2 29 dz :: .f false "_law_other_names" 4 43 bg :: .f false "_law_now" 2 38 dI :: .f false "_law_pool" 4 39 dQ :: .f false "is_great" 1 9 aX :: .f false "stands_for" 2 15 bh :: .f false "_law_words" 2 30 dA :: .f false "_law_fact_text" 1 41 a8 :: .f false "_law_written" 1 47 aS :: .f false "check_facts" 2 17 bN :: .f false "check_taken" 2 18 cO :: .f false "know" 2 21 jR :: .f false "taken_out" 2 20 bU :: .f false "chosen" 2 23 ie :: .f false "tell_same" 3 22 dR :: .f false "written" 2 19 bV :: .f false "moved" 5 14 dT :: .f false "fact_text" 1 10 bW :: .f false "facts_text" 1 11 cg :: .f false "pool_text" 1 16 bu::[]
theorem NO:Cy PySem.Challenge.pw_poolrules_k07_whole_changes.main.body G0 ds:=by
 unfold ds
 repeat' first|refine M.tA ?_|refine M.Lm ?_|refine M.Lp ?_|exact M.IJ
abbrev B:=PySem.Challenge.pw_poolrules_k07_whole_changes.main.body
def R0:Rt:=⟨[],["NoName"]⟩
theorem dr:KW R0 (adds G0 ds) (hO (tp B 15)) (tp B 15) iD:=⟨by decide +kernel,by kernel_rfl⟩
theorem NP:KY [("_law_told",bx)] (adds G0 ds) (hO (tp B 48)) (tp B 48) lH:=⟨by decide +kernel,by kernel_rfl⟩
theorem NQ:bodyOf (tp B 42)=[ (SQ (targets:=[(QF "_law_found" ⟨211,4,211,14⟩)]) (value:=(Tt PySem.Const.none 0 ⟨211,17,211,21⟩)) (pos:=⟨211,4,211,21⟩)),(SQ (targets:=[(QF "_law_good" ⟨212,4,212,13⟩)]) (value:=(Tt (VA true) 0 ⟨212,16,212,20⟩)) (pos:=⟨212,4,212,20⟩)),(PySem.Stmt.Try (body:=[ (SQ (targets:=[(QF "_law_found" ⟨214,8,214,18⟩)]) (value:=(PySem.Expr.Call (func:=(QF "stands_for" ⟨214,21,214,31⟩)) (args:=[(QF "_law_pool_here" ⟨214,32,214,46⟩),(QF "_law_name" ⟨214,48,214,57⟩)]) (keywords:=[]) (pos:=⟨214,21,214,58⟩))) (pos:=⟨214,8,214,58⟩))]) (handlers:=[ (PySem.ExceptHandler.ExceptHandler (type:=(some (QF "NoName" ⟨215,11,215,17⟩))) (name:=none) (body:=[ (SQ (targets:=[(QF "_law_good" ⟨216,8,216,17⟩)]) (value:=(Tt (VA false) 0 ⟨216,20,216,25⟩)) (pos:=⟨216,8,216,25⟩))]) (pos:=⟨215,4,216,25⟩))]) (orelse:=[]) (finalbody:=[]) (pos:=⟨213,4,216,25⟩)),(PySem.Stmt.If (test:=(QF "_law_good" ⟨217,7,217,16⟩)) (body:=[ (Vv (value:=(some (VF [(QF "_law_found" ⟨218,16,218,26⟩)] ⟨218,15,218,27⟩))) (pos:=⟨218,8,218,27⟩))]) (orelse:=[]) (pos:=⟨217,4,218,27⟩)),(Vv (some (VF [] ⟨219,11,219,13⟩)) ⟨219,4,219,13⟩)]:=by kernel_rfl
theorem Ka:BA 2 "stands_for" "stands_for" (tp B 15):=by intro _ _ _ _ _ _;(repeat refine bC fun _=>?_);exact b0 (by kernel_rfl)
theorem Kb:BA 2 "_law_told" "_law_told" (tp B 42):=by intro _ _ _ _ _ _;(repeat refine bC fun _=>?_);exact b0 (by kernel_rfl)
theorem Kc:BA 1 "law" "law" (tp B 48):=by intro _ _ _ _ _ _;(repeat refine bC fun _=>?_);exact b0 (by kernel_rfl)
theorem NS:(hO (tp B 15)).length=2:=by kernel_rfl
theorem Lq:(hO (tp B 42)).length=2:=by kernel_rfl
theorem NT:(hO (tp B 48)).length=1:=by kernel_rfl
theorem NU:dep ds=35:=by decide
theorem NV:(adds G0 ds).fn.lookup ("stands_for":Str)=some bh:=by kernel_rfl
set_option maxHeartbeats 0 in
theorem top {P:Pp} {w:Qn} {K:O7} {mg:Str->Option OE} {h:Heap} {fa C:Pf} (X:K.In h) (G:h.Ns P0 mg) (e:mg "law"=some (.ref fa))
  (c1:AllP (Ah K) G0.co) (c2:AllP (Hu K) G0.us) (c4:AllP (DU B K []) ds) (c5:AllP (DU B K []) [.f false "stands_for" 2 15 bh,.f false "_law_told" 2 42 bx,.f false "law" 1 48 lH]) (n:QR K P0 "NoName"=some (some (.ref C))) (x:RU K C Fo vO=true) (xm:Ve K (.ref C) (.ref C)=some true):∃cls,∀base:Heap,K.In base->base.Ns P0 mg->FI P w K mg cls base 38 fa lH:=by
 refine⟨mI K [],fun base KB _=>?_⟩;have T:=tab_of (P:=P) (w:=w) (base:=base) B G0 [] ds X G NO NU ⟨rfl,rfl⟩ (by decide +kernel) c1 c2 Cz c4 KB
 obtain⟨⟨f1,n1,F1⟩,⟨f2,n2,F2⟩,⟨f3,n3,F3⟩,_⟩:=c5;have mN:=So X G n
 have Q0:iW P w K mg (mI K []) base 35 R0:=FL fun y hy=>by rw [OK.mp hy];exact⟨by decide,C,mN,x⟩
 have Q1:=iW.def T Q0 F1 dr (fun kV doc pm an aU ct us h=>Ka kV doc pm an aU ct us (h.trans NS)) (So X G n1) (by decide);have FC:Fy P w K mg (mI K []) base 37 f2 (fun xs L t=>bx xs L=.ok t L):=zf (mc:=bh) (mr:=iD) (nm:="stands_for") (c0:="NoName") T.mono Q1 F2 (by decide +kernel) Lq (by kernel_rfl) rfl NV (by kernel_rfl) (by decide +kernel) (fun kV doc pm an aU ct us h=>Kb kV doc pm an aU ct us (h.trans Lq)) NQ (by kernel_rfl) (by kernel_rfl) (by kernel_rfl) (by kernel_rfl) (by kernel_rfl) (by decide) mN xm (fun x1 x2 L=>by kernel_rfl) (fun x1 x2 t L=>by kernel_rfl) (fun x1 x2 L=>by kernel_rfl)
 have m3:=So X G n3;rw [e] at m3;cases m3;exact fun {_ _ _ _ _ _ _ _} a1 a2 a3 a4 a5 a6=>Tab.MU T.mono.mono FC (fun xs L t L1 h=>(mK h).1) (So X G n2) F2.kp (by decide) F3 NP (fun kV doc pm an aU ct us h=>Kc kV doc pm an aU ct us (h.trans NT)) a1 a2 a3 a4 a5 a6
end D1
open PySem PySem.W PyProof.Rows M
set_option maxHeartbeats 0 in
theorem PySem.Challenge.cw_poolrules_k07_whole_changes_holds : PySem.Challenge.rw_poolrules_k07_whole_changes.Holds := by
 w_on;o_law;k_head;(case hw=>w_witness2)
 k_fill
 refine vX (l:=PySem.Challenge.rw_poolrules_k07_whole_changes) (n:=63) (k:=38) (m:=D1.lH) rfl (by decide) rfl ⟨rfl,by decide,by decide⟩ (fun w h Y=>kIn_of Y) (fun w mg fa h X G e=>?_) D1.xu;refine D1.top X G e (IM (by k_is) (by decide) (IP (us:=#[.ref _,.ref _,.ref _,.bool true]) (by k_is) (by k_is) (by decide) (CA (us:=#[]) (by k_is) (by decide) yV (CA (us:=#[]) (by k_is) (by decide) yV (CA (us:=#[]) (by k_is) (by decide) yV (IQ yV)))) Cz)) ?_ ?_ ?_ (by k_is) (by k_exc) (by kts_exm);all_goals repeat' first|exact Cz|refine IK (by k_is) ?_|refine IL (by k_is) (by k_is) (by k_is) (by k_is) ?_
