import PyProof.Rows.All
import Wide.All
import OpenK.AllK
import Wide.FinOn
import PyProof.EqAt
import PyProof.EqKinds
import PyProof.TupleCall
import PyProof.EnumFor
import PyProof.EnumStmt
import PyProof.EnumMake
import PyProof.StrOps2
import PyProof.DictWalks
import PyProof.DictItems
import KE.KPairComp
import PyProof.ZipIter
import PyProof.SumWalkG
import PyProof.IsiPairs
import PyProof.DictRoadsH
import PyProof.Rows.TupTab
import KE.KDictList
import KE.KDictOf
import KE.KSortAsk
import KE.KSortTup
import PySem.Challenge.RW_poolrules_k37_two_rules_of_one_fact
set_option Elab.async false
set_option linter.all false
namespace PySem.W.Fast
def tw15174069276316422541:=True
def tw11823612147083765119:=True
def tw12471567166565906247:=True
def tw2344472608369800941:=True
def tw7896676946030108124:=True
def tw16004770539297402700:=True
def tw13168000527931428440:=True
def tw9688194510671306553:=True
def tw10333951415082400669:=True
def tw2405010334997324423:=True
def tw15785454774417246030:=True
def tw7473152479563466183:=True
def tw1956927022494603014:=True
def tw1413774754259065149:=True
def tw17154085146336823646:=True
def tw8628692349676585158:=True
def tw17029580251231558639:=True
def tw12773902076362730537:=True
def tw13340025803500577274:=True
def tw2268994053935262580:=True
def tw4150933412257274385:=True
def tw11605216695406812200:=True
def tw15825875704465346536:=True
def tw9379926571370583388:=True
def tw10381637071711195429:=True
def tw13881307949866837264:=True
def tw8126047479242609699:=True
def tw8818592561598700230:=True
def tw1539925377336647573:=True
def tw17099370973075330142:=True
def tw10001712339567286400:=True
def tw2564371114469741577:=True
def tw17527264594650673418:=True
def tw1258241820112639549:=True
def tw5995573329432073869:=True
def tw8428133533901951763:=True
def tw5851885331351693358:=True
def tw9514197401939395765:=True
def tw4481507114826230011:=True
def tw13711955706542961391:=True
def tw15377182107967521925:=True
def tw11926025358682182109:=True
def tw13984194930671402765:=True
def tw9273308942792979609:=True
def tw15859588807487658425:=True
def tw9691139217216354967:=True
def tw1935267578530676084:=True
def tw4455281720546067712:=True
def tw4283834183376502864:=True
def tw12170567678335971222:=True
def tw17652380691486998082:=True
def tw4815368929598459491:=True
def tw13920397154463622366:=True
def tw15123326324253598678:=True
def tw11230530599835876152:=True
def tw5328531009485213370:=True
def tw11049006084598839020:=True
def tw14090788213468560015:=True
def tw14354036617430396854:=True
def tw18073021706981127556:=True
def tw11989044531985764133:=True
def tw12780121980082142405:=True
def tw11617198219038594075:=True
def tw8397985472821607746:=True
def tw2027312812795701535:=True
def tw12802893992405333742:=True
def tw10493556298404053399:=True
def tw3304214812760813787:=True
def tw8255324630616443228:=True
def tw15826535945311524583:=True
def tw9601309603704525987:=True
def tw165247552027390457:=True
def tw12234865781946312713:=True
def tw982648403931149713:=True
def tw8700609186246421792:=True
def tw5412814916769679577:=True
def tw523811322917371530:=True
def tw11928316300020109929:=True
def tw2861783242865632654:=True
def tw185331937090963368:=True
def tw1652479410112117930:=True
def tw12801257153670305180:=True
def tw4086512649020525550:=True
def tw4740039837786880688:=True
def tw3443752593571192830:=True
def tw15735795079841455333:=True
def tw14010421296679442324:=True
def tw10349957148199732641:=True
def tw9359650651590691710:=True
def tw497873154423079193:=True
def tw14942579121389740511:=True
def tw7523611575786367505:=True
def tw4951615542461428608:=True
def tw8055748862660481882:=True
def tw9971282598451784447:=True
def tw3203990756695176031:=True
def tw15398446043765022983:=True
def tw8427788189249826130:=True
def tw12083623481344424400:=True
def tw10488966823411983186:=True
def tw16115482012296721736:=True
def tw5652824808141398478:=True
def tw16364162682732906000:=True
def tw16260606208565897294:=True
def tw10013302874004732866:=True
def tw16033032981751449181:=True
def tw8771191279642737135:=True
def tw17514623766049722938:=True
def tw1414678639871672847:=True
def tw10542010393042734135:=True
def tw13146702199084133598:=True
def tw6472228458360077412:=True
def tw8366396548923168613:=True
def tw945553621804205972:=True
def tw1930082303398353986:=True
def tw3552846164157135908:=True
def tw9383571657886691765:=True
def tw5829918515970118440:=True
def tw893432401528523848:=True
def tw9634953071164029448:=True
def tw14176413737030278428:=True
def tw6552664851935378440:=True
def tw12168620924066008156:=True
def tw1466938011641476363:=True
def tw6081159485413573546:=True
def tw5177694262465186430:=True
def tw8275634992456668326:=True
def tw16214577932647544764:=True
def tw17839060785011425114:=True
def tw14398306972761456925:=True
def tw4276925462627915857:=True
def tw4173694907185180486:=True
def tw2380461892075155107:=True
def tw15409737151984452920:=True
def tw14144010741974008665:=True
def tw15783415435371731575:=True
def tw14424191963354200242:=True
def tw15814940517511569665:=True
def tw11016618439162641892:=True
def tw1253449501827948064:=True
def tw1246499143172324916:=True
def tw12790475959041301085:=True
def tw10867898033348166033:=True
def tw4159271033340998014:=True
def tw5039927374454959739:=True
def tw919805456550734049:=True
def tw9552275808881674116:=True
def tw12020929389197854786:=True
def tw18334964585483058686:=True
def tw14970514537390853295:=True
def tw164287137514601301:=True
def tw1576656389934662397:=True
def tw10498309188477196657:=True
def tw9032620484327446279:=True
def tw5237005496930162836:=True
def tw8866904603465630178:=True
def tw16416138403998244218:=True
def tw1724377199540135787:=True
def tw17116115083191839503:=True
def tw762328909100648991:=True
def tw17758620754831280174:=True
def tw13282698177429545290:=True
def tw10200605419532122765:=True
def tw13677893255434827595:=True
def tw10981540285610325760:=True
def tw6359485763581818506:=True
def tw10619476924726982616:=True
def tw13485039178941921025:=True
def tw5045582178072678653:=True
def tw17748800251293468918:=True
def tw15406271996955023057:=True
def tw9630850937423123725:=True
def tw11656880123991993862:=True
def tw13119282987342482319:=True
def tw17555773788696887023:=True
def tw11607343159309419918:=True
def tw16928314585093805145:=True
def tw2585810081803055875:=True
def tw36489174890965291:=True
def tw17629797007323037009:=True
def tw16880072403246808740:=True
def tw10277332551891323557:=True
def tw10484472644979679492:=True
def tw15830819482178749728:=True
def tw8574488429541852016:=True
def tw3292501232968053550:=True
def tw5476368365928520302:=True
def tw16758642215712323430:=True
def tw15406513830186643380:=True
def tw6464504217526886567:=True
def tw12558619402924326814:=True
def tw5790624603980074667:=True
def tw5749989948974157663:=True
def tw3260163645370308982:=True
def tw13315157965587674281:=True
def tw2384368849865618341:=True
def tw15318722873542164439:=True
def tw14959852553865304282:=True
def tw1317738202515642607:=True
def tw16043221638327750427:=True
def tw14070056306574802465:=True
def tw10357019520716087343:=True
def tw14119811621253264809:=True
def tw1340951150069566931:=True
def tw14065207154363010239:=True
def tw7995192162052772338:=True
def tw628262142782242137:=True
def tw15317614580586227626:=True
def tw6880709071315247954:=True
def tw4676158646189416423:=True
def tw13729212764787512347:=True
def tw12619564623593676581:=True
def tw15748692577456622091:=True
def tw3880728021480489605:=True
def tw4367156818628195630:=True
def tw8010078397512788229:=True
def tw1662627063232447813:=True
def tw14030903797331230148:=True
def tw5412181834606499372:=True
def tw14815957734223034654:=True
def tw4084424427798421671:=True
def tw14453077123727378019:=True
def tw10205912369154663685:=True
def tw3711157066032608285:=True
def tw12316751158235483287:=True
def tw2411458980581021647:=True
def tw15077872271799431740:=True
def tw2578902652990307484:=True
def tw7111691891727138755:=True
def tw9341116435561847146:=True
def tw7523541574676925527:=True
def tw3990053353878188895:=True
def tw11949879687736886538:=True
def tw16999660737782529392:=True
def tw6402474408109069514:=True
def tw8285349480338120639:=True
def tw10919467144170617553:=True
def tw435125991390462937:=True
def tw16785003504595345035:=True
def tw14960324478078636248:=True
def tw6450866813171116003:=True
def tw5016307251940900094:=True
def tw11952739207526285790:=True
def tw949298718183533111:=True
def tw1658102485351800287:=True
def tw13778614738838320164:=True
def tw11940638710453310578:=True
def tw6850063961184500854:=True
def tw11208729748091388491:=True
def tw9839868510813568473:=True
def tw13824125081270216964:=True
def tw11018457874244858651:=True
def tw9850059151414625441:=True
def tw1030397844215666323:=True
def tw1641416363512253536:=True
def tw13927410548881765322:=True
def tw17536969832137409856:=True
def tw8326477216397835016:=True
def tw5084319059638954761:=True
def tw3720535593516983799:=True
def tw14390772197261965746:=True
def tw6365796055326921790:=True
def tw12852207464514810702:=True
def tw4803206747998937142:=True
def tw13935218859397038466:=True
def tw5402289263067584529:=True
def tw2934606714818435351:=True
def tw11179187081380429859:=True
def tw4762321411614087543:=True
def tw9739549903387297838:=True
def tw14813752267319714817:=True
def tw741255271442854863:=True
def tw13027573280551313980:=True
def tw16026726069724214606:=True
def tw1473730945759764266:=True
def tw1543836272103744353:=True
def tw4305150110388163756:=True
def tw12574825090172799037:=True
def tw10354490457945181544:=True
def tw7467842158462817514:=True
def tw8959479523017659343:=True
def tw14914832790834884143:=True
def tw3297999099080310933:=True
def tw11952062288146415520:=True
def tw13144125979970252231:=True
def tw16306778399430599643:=True
def tw1017476273892421614:=True
def tw1543742272130202005:=True
def tw15703375171783245690:=True
def tw2550522905931284987:=True
def tw15030426988053225864:=True
def tw7217418767349408505:=True
def tw15043124754990572710:=True
def tw8274576065366327467:=True
def tw1922354267771007109:=True
def tw15636871639634597713:=True
def tw7513937216719778916:=True
def tw994979094404234216:=True
def tw18357017906278564058:=True
def tw8752575686927575764:=True
def tw2492636946947257789:=True
def tw1383992314851581486:=True
def tw2909968144933770798:=True
def tw13135177569827037784:=True
def tw10250276649055175874:=True
def tw12995347903195607204:=True
def tw2867614884170189640:=True
def tw365252886058026678:=True
def tw8408236894109935680:=True
def tw11194201053302124317:=True
def tw6650893591954646753:=True
def tw17289832173632973115:=True
def tw7635736926868565268:=True
def tw13146863925927357328:=True
def tw14977234119615247085:=True
def tw6562654097336111212:=True
def tw6602700363652514107:=True
def tw10485355901011022825:=True
def tw9917278382311984339:=True
def tw11648637589465622312:=True
def tw36850189073948644:=True
def tw8379095235581368896:=True
def tw12278537970077103602:=True
def tw450088495070309108:=True
def tw11879130094582661207:=True
def tw14436888325991868176:=True
def tw3933334636145781825:=True
def tw9542184147283860988:=True
def tw7463795641910755127:=True
def tw13518044495833737220:=True
def tw12321028712745208393:=True
def tw11365128877956526260:=True
def tw18262927524086975079:=True
def tw9890973087383004365:=True
def tw3900389335618819813:=True
def tw3043111347480075208:=True
def tw8830878818526506793:=True
def tw1413204037262226759:=True
def tw3971626932941142953:=True
def tw14779557302414092726:=True
def tw7324980788499276954:=True
def tw4934428814132009248:=True
def tw7958428677173108857:=True
def tw7915991907597642847:=True
def tw13134279142143041270:=True
def tw157578782827737529:=True
def tw18115394157753889309:=True
def tw11992043377412075924:=True
def tw12879669073365969749:=True
def tw15732730500018910708:=True
def tw17756777131675686250:=True
def tw18015941825726678569:=True
def tw15833418824110616290:=True
def tw426862427591180794:=True
def tw14347907975428338059:=True
def tw3405573720495518127:=True
def tw8172676051559894649:=True
def tw6444373107688407523:=True
def tw6202587327207608671:=True
def tw11472866415993386116:=True
def tw2261776340484407040:=True
def tw6881875509333931745:=True
def tw15235174472719555455:=True
def tw16752071878574636212:=True
def tw152361578829958823:=True
def tw12452022030727874067:=True
def tw14693833326326945368:=True
def tw5093683114851067245:=True
def tw7699486445178226942:=True
def tw11650905255409824191:=True
def tw2886843657883499546:=True
def tw10040789257003444891:=True
def tw12694727062831749817:=True
def tw7078677410863487627:=True
def tw4084367179993489062:=True
def tw11488942848348967653:=True
def tw12756578013818575382:=True
def tw17874109625430242063:=True
def tw9670033178659650580:=True
def tw166714361849010060:=True
def tw8767496887673429816:=True
def tw13111954241240441160:=True
def tw1976831835378495030:=True
def tw668809314764874601:=True
def tw11280605123456265056:=True
def tw2727495020511074000:=True
def tw5293894578493456350:=True
def tw13467318935912985327:=True
def tw13230558384076977080:=True
def tw16191397139292145374:=True
def tw8870406985528594233:=True
def tw8304503775318491264:=True
def tw15866999953534256783:=True
def tw13702829695764935638:=True
def tw7837019155111036325:=True
def tw906483319796185865:=True
def tw5150657150956582811:=True
def tw5003684911308118552:=True
def tw5470838080857424231:=True
def tw12225304715689240460:=True
def tw4760768590901753743:=True
def tw6068616206897434531:=True
def tw17140759945048696856:=True
def tw606929043372374628:=True
def tw18226222331554102593:=True
def tw11805446218050547664:=True
def tw11590170482016062592:=True
def tw3930362979484911380:=True
end PySem.W.Fast
set_option maxRecDepth 100000
open PySem renaming wpAny_bind->QJ,wpAny_pure->QL,Value->QN,Shared->QP,wpAny->QZ,sizeLine->Q9,Addr->Rm,SetTable->Rz,mem_of_lookup->RD,Around->RH,wpAny_setState_of->RL,mainGlobals->RR,Program->RY,sizeLine_eq->Sr,World->SU,evalArgs_none->Vx,call_isinstance->WQ,isinstance_true->WR
open PySem.Heap renaming get?_push_of_some->QK,get?_push_size->QM,lt_size->Q1,get?_update_other->Rh,get?_update_self->RA,size_push->R1,SameBut->Ss,get?_push_ne->Uo,size_update->Vm,get?_update_ne->Vz,ExtBut->Xg,NewExcOf->Xo,IsTuple->Xz
open List renaming all_eq_true->QO,mem_cons_self->QR,length_append->QT,mem_cons_of_mem->QV,length_cons->QX,getElem?_eq_some_iff->Q2,map_cons->Q4,mem_cons->Q5,getElem_mem->Q6,replicate->Q7,mem_append_left->Q8,lookup_cons->Rb,getElem?_map->Rd,map_append->Rg,mem_map->Rj,append_assoc->Rn,mem_singleton->Rr,length_drop->Ru,mem_append_right->Rv,mem_map_of_mem->Ry,mem_append->RB,mem_of_getElem?->RM,length_nil->RO,append_nil->RP,nil_append->RQ,range->RV,take_of_length_le->RX,all_cons->R0,mem_range->R2,map_map->Sb,nodup_cons->Sf,findIdx?_eq_some_iff_getElem->Sl,length_singleton->Sn,size_toArray->So,drop_eq_getElem_cons->Su,length_take->Sw,ext_getElem->Sx,getElem_of_mem->SQ,getElem?_eq_none->SY,any_eq_true->S7,length->Th,mem_filter->Ti,map_eq_nil_iff->Tj,getElem_map->Tq,cons_ne_nil->Ts,cons_append->Tt,zip_cons_cons->Tv,mapM_cons->Tw,forIn_cons->TH,map->T8,length_replicate->Ub,take_append_drop->Ug,singleton_append->Uj,nodup_append->Um,pairwise_map->Up,length_range->Uq,exists_cons_of_ne_nil->Uu,mem_iff_getElem->Ux,nodup_nil->UA,not_mem_nil->UI,length_erase_of_mem->UO,map_nil->UP,of_mem_zip->UR,foldl_cons->US,getElem?_cons_zero->U1,pairwise_cons->U2,drop_eq_nil_of_le->U5,forIn_nil->Vg,drop_left->Vh,drop_drop->Vi,toArray->Vl,getElem?_set_ne->Vn,forall_mem_cons->Vq,map_congr_left->VA,perm_ext_iff_of_nodup->VF,length_eraseIdx_of_lt->VH,mem_filterMap->VK,findIdx?_cons->VL,count_pos_iff->VQ,set_cons_zero->VR,set_cons_succ->VS,getElem?_eq_none_iff->VU,findIdx?_eq_none_iff->VW,pairwise_iff_getElem->VX,extract_eq_drop_take->VY,mem_of_find?_eq_some->V0,ext_getElem?->V1,flatMap_cons->Wg,lookup->Wi,length_eq_zero_iff->Wn,map_id->Wr,zipIdx_cons->Wv,mem_flatMap->Wx,getElem?_set_self->Wy,drop_of_length_le->Wz,range_succ_eq_map->WA,pairwise_lt_range->WI,length_pos_of_mem->WM,all_nil->WT,zipIdx_nil->WW,length_filter_le->W4,getElem?_range'->W5,mem_of_mem_take->W7,dropLast_concat->Xa,take_succ->Xb,replicate_succ->Xd,take_succ_cons->Xf,filterMap_cons->Xi,filter_eq_self->Xk,takeWhile_cons->Xl,all_map->Xy
open Bool renaming and_eq_true->QS,false_eq_true->QW,false_ne_true->RC,eq_iff_iff->R6,not_true->SV,or_eq_true->S1,not_false->TZ,and_false->UB,or_false->UX,and_true->Vt,or_self->XD,or_true->XE
open Array renaming getElem?_eq_getElem->QU,getD_eq_getD_getElem?->Rt,size_map->R9,length_toList->Sm,size_eq_zero_iff->SN,getD->SR,getElem_of_mem->TF,forIn_toList->T7,getElem?_eq_some_iff->Ut,mem_toList_iff->Uv,getElem?_push->UJ,getElem?_toList->Vk,getElem?_eq_none_iff->VI,getElem_mem->V5,toList_push->V8,toList_map->Wu,getElem?_extract->WH,toList_filterMap->WJ,toList_extract->W9
open Option renaming map_eq_some_iff->QY,isSome_iff_exists->R4,join_some->S8,bind_eq_some_iff->S9,getD_some->Tp,bind_some->Tr,getD_none->Ws
open PySem.Paired renaming length->Q0
open Nat renaming le_refl->Q3,le_trans->Ra,ne_of_lt->Rc,zero_le->Rf,lt_of_lt_of_le->Rp,ne_of_gt->RU,lt_succ_of_lt->Sh,lt_irrefl->Sk,lt_succ_self->SK,le_succ->SO,lt_trans->S2,le_succ_of_le->Tf,le_add_left->Ud,pow_succ->Ue,add_assoc->Ul,le_of_lt->UK,le_of_eq->UL,mod_lt->Ve,mul_le_mul_right->Vr,lt_of_le_of_lt->VJ,add_zero->VM,succ_pos->VN,add_sub_cancel->VP,lt_trichotomy->Wb,succ_le_succ->Wt,mod_eq_of_lt->Ww,lt_or_ge->WS,pow_le_pow_right->W8,reduceSub->Xu,mul_comm->XA,succ_mul->XC
open PySem.W renaming Frag->Ro,instObj->R3,emptyDict->R5,findIn->R8,keepIn->Si,nsIn->Sj,fnOf->S0,codeIn->TY,plainGet->UH,isFn->UM,cellsFrom_some->U3,hasDictIn->Va,plainGet_of->Vu,makesIn->Vv,lookIn->VV,plainOver->V2,takerIn->WN,callWith_K0->Xc,callWith_K->Xm,codeRec_of->Xn,mg_of->Xt,handedIn->XG
open PySem.Builtin.SmallTypes renaming nextOf->Rx,ownedTupleIsFree->RE,ownedTupleHandOut->UE
open PySem.SetTable renaming insertAt->RF,runEnd->RI,bits->RS,below->RZ,leap->Se,turns->SX,Probe->Tc,grown->Td,advance->TX,fresh->UG,layClean->Vf,sizeAbove->VO,has->WZ,fill->Xr
open PySem.Value renaming none->RG,ref->Sz,type->Ur,builtin->UU,str->Vj,notImplemented->W6,int->XJ
open PySem.Obj renaming mapSeq->RJ,data_mapFields->SG,isFreed_of_fields->Uc,data_mapDictKeys->Uw,mapFields->UW,cls_mapFields->Vc,isFreed_of_dict->Vy,putSet->Xw
open PySem.AutoSeq1 renaming wpAny_loadPart'->RK,sub_tuple_tuple->V4,sub_list_list->WB
open PySem.Around renaming under_plainId->RN
open PySem.Heap.SameBut renaming update->RW
open Int renaming toNat_natCast->R7,emod_nonneg->S4,emod_lt_of_pos->S6,lt_irrefl->Xp,toNat->XK
open PySem.Str renaming ofString->Sa
open Classical renaming propDecidable->Sd,byContradiction->SW,choose_spec->WV,skolem->XI
open PyProof.Rows renaming slot_tuple_getitem->Sp,callWith_type1->T9,lt_str->Xe
open PySem.NameKind renaming free->Sv,cell->Wj
open Ne renaming symm->Sy
open PySem.Builtin.List renaming listTooLong->SD,listExtendWith->SJ,listSameRef->TM,listLengthHint->Ui
open Option.some renaming inj->SF
open PySem.Builtin.Dict renaming updateFrom->SH,mergeDict->Tn,selfAndRest->Wa,pairItems->WD,showsAll->W3
open PySem.F renaming slot_tuple_iterator_next->SM,slot_zip_next->S3,plainAttrs_dict->Ta,slot_dict_keyiterator_next->To,plain_extend_loop->TC,slot_tuple_getattribute->TK,slot_list_getattribute->TN,slot_dict_items->TR,plainAttrs_list->TS,slot_zip_getattribute->TV,slot_str_split->T3,slot_bool_hash->T4,slot_tuple_hash->T6,called_set->Uh,args_str_split_2->UN,args_tuple_iterator_next_1->UQ,entry_str_split->UT,entry_tuple_iterator_next->UZ,args_zip_next_1->U0,slot_dict_iter->U6,entry_zip_next->U7,plainAttrs_str->U9,slot_list_append->Vo,slot_list_extend->Vp,slot_dict_setdefault->Vs,kt_typeCall_dict_1->VD,args_object_init_3->VE,args_dict_items_1->VZ,slot_tuple_count->V6,slot_tuple_index->V7,args_dict_init_2->V9,entry_dict_items->Wd,slot_dict_update->We,plainAttrs_tuple->Wf,slot_list_count->Wk,entry_dict_init->Wm,plain_list_iadd->Wo,type_dict_items->Wq,slot_list_iadd->WC,kt_called_dict->WE,typeCall_zip_2->WG,slot_dict_get->WU,newCall_zip_2->WX,entry_zip_new->WY,slot_list_insert->W2,called_zip->Xq
open PySem.SeqAt renaming EqAt->S5
open PySem.Calls renaming spliced_nil->Te,spliced_cons->Tu,call_function_entry->UD,callWith_builtin->U4,Name_function_global->VB
open PySem.Builtin.Slice renaming slicePlaces->Tz,sliceAdjust->UC,sliceApplied->VC
open PySem.PassesOwn renaming never->TG
open PySem.Builtin.Tuple renaming tupleExact->TJ,tupleItemsOf->Us,tupleHashOf->Uz
open PySem.SetTable.probe renaming go->TL
open PySem.MeetsSeq3 renaming plain_eq_loop->TQ,entry_eq_loop->Wl
open List.cons renaming inj->TU
open ForInStep renaming yield->Ua
open Std.Legacy.Range renaming forIn_eq_forIn_range'->Uk
open PySem.Txt renaming split->Uy,stripChars->VT
open PySem.Shared renaming TypeIs->UY,heap->Xh
open PySem.SetTable.layClean renaming free->U8
open Function renaming comp_def->Vb
open PySem.SetTable.below renaming go->Vd
open PySem.Builtin.Str renaming strSliceIndices->Vw
open PySem.Manifest.ParamKind renaming posOnly->VG
open False renaming elim->V3
open List.Pairwise renaming imp_of_mem->Wc,nil->Xx
open PySem.Builtin.Range renaming rangeSize->Wh
open PySem.Manifest.Receiver renaming self->WK,none->WL
open PySem.SetTable.sizeAbove renaming go->W0
open PySem.W.KT renaming app_list->Xj
open PySem.Heap.DictAt renaming dictOf->Xs
open PySem.Heap.IsTuple renaming push->Xv
open PySem.IsL renaming update->XF
open Std.Legacy renaming Range->XH
theorem Lm9 {α:Type _} {β:Type _} {as:List α} (f:α->β):(as.map f).length=as.length:=List.length_map f
theorem Ge9 {α:Type _} {l:List α} {i:Nat} (h:i<l.length):l[i]?=some l[i]:=List.getElem?_eq_getElem h
theorem Gd9 {α:Type _} {l:List α} {i:Nat} {a:α}:l.getD i a=(l[i]?).getD a:=List.getD_eq_getElem?_getD
namespace Om
theorem q0 {a m k:Nat} (h:a<=m:=by with_reducible assumption) (g:m<=k:=by decide):a<=k:=Ra h g
theorem q1 {a m k:Nat} (h:a<=m:=by with_reducible assumption) (g:m<k:=by decide):a<k:=VJ h g
theorem q2 {a b k:Nat} (h:a<b:=by with_reducible assumption) (e:b=k:=by with_reducible assumption):a<k:=e▸h
theorem q3 {a b k:Nat} (h:a<b:=by with_reducible assumption) (e:k=b:=by with_reducible assumption):a<k:=e▸h
theorem q4 {a b m k:Nat} (e:a=b:=by with_reducible assumption) (h:b<=m:=by with_reducible assumption) (g:m<=k:=by decide):a<=k:=Ra (e▸h) g
theorem q5 {a b m k:Nat} (e:b=a:=by with_reducible assumption) (h:b<=m:=by with_reducible assumption) (g:m<=k:=by decide):a<=k:=Ra (e▸h) g
theorem q6 {a m k:Nat} (e:a=m:=by with_reducible assumption) (g:m<=k:=by decide):a<=k:=e▸g
end Om
local macro_rules|`(tactic| omega)=>`(tactic| first|exact Om.q0|exact Om.q1|exact Om.q2|exact Om.q3|exact Om.q4|exact Om.q5|exact Om.q6|lia -abstractProof)
local macro_rules|`(tactic| grind)=>`(tactic| grind -abstractProof)
set_option bootstrap.genMatcherCode false
set_option compiler.extract_closed false
noncomputable section
namespace M
open PySem
abbrev Cs:=List Nat
theorem IA {g:Prop} (h:∀G:Prop,(g->G)->G):g:=h g id
inductive T where
 | bj|bl (b:Bool)|int (i:Int)|str (s:Cs)|tup (xs:List T)|lst (xs:List T)|ah (ks:List (T × T))|obj (c:Str) (fs:List (Str × T))|ref (n:Nat)|cl (c:QN)
abbrev aa:=List T
abbrev Fr:=List (Option T)
noncomputable def at_ {α:Type}:List α->Nat->Option α
 | [],_=>none
 | c::L,n=>if n=L.length then some c else at_ L n
noncomputable def put {α:Type}:List α->Nat->α->List α
 | [],_,_=>[]
 | c::L,n,d=>if n=L.length then d::L else c::put L n d
inductive R (α:Type) where
 | ok (a:α) (L:aa)|bad
noncomputable def R.bind {α β:Type}:R α->(α->aa->R β)->R β
 | .ok a L,f=>f a L
 | .bad,_=>.bad
theorem R.of {α β:Type} {r:R α} {f:α->aa->R β} {b L} (h:r.bind f=.ok b L):∃a L1,r=.ok a L1/\f a L1=.ok b L:=by
 cases r with
 | ok a L1=>exact⟨a,L1,rfl,h⟩
 | bad=>cases h
inductive O where
 | nx (φ:Fr) (L:aa)|rt (t:T) (L:aa)|bk (φ:Fr) (L:aa)|ct (φ:Fr) (L:aa)|bad
noncomputable def O.of {α:Type} (r:R α) (f:α->aa->O):O:=match r with
 | .ok a L=>f a L
 | .bad=>.bad
abbrev SE:=Fr->aa->R T
abbrev ST:=Fr->aa->R Bool
abbrev SA:=Fr->aa->R (List T)
abbrev SS:=Fr->aa->O
abbrev Fn:=List T->aa->R T
abbrev SI:=Fr->aa->R (List T × (aa->Prop))
noncomputable def vw (L:aa):T->T
 | .ref n=>(at_ L n).getD .bj
 | t=>t
noncomputable def lim:Nat:=16777216
noncomputable def a8 {α:Type} (c:Prop) [Decidable c] (r:R α):R α:=if c then r else .bad
noncomputable def mk (fz:Bool) (t:T) (L:aa):R T:=if fz=true then .ok t L else .ok (.ref L.length) (t::L)
noncomputable def fk (fz:Bool) (xs:List T) (L:aa):R T:=a8 (xs.length<=lim) (mk fz (.lst xs) L)
noncomputable def lift (o:Option T) (L:aa):R T:=match o with
 | some t=>.ok t L
 | none=>.bad
noncomputable def dat:Nat->T->Bool
 | _+1,.bj=>true
 | _+1,.bl _=>true
 | _+1,.int _=>true
 | _+1,.str _=>true
 | n+1,.tup xs=>xs.all (dat n)
 | n+1,.lst xs=>xs.all (dat n)
 | _,_=>false
noncomputable def jx (f:T->T->Bool):List T->List T->Bool
 | [],[]=>true
 | a::r,b::q=>f a b && jx f r q
 | _,_=>false
noncomputable def qD:Nat->T->T->Bool
 | _+1,.bj,.bj=>true
 | _+1,.bl a,.bl b=>a == b
 | _+1,.bl a,.int b=>(if a then 1 else 0) == b
 | _+1,.int a,.bl b=>a == (if b then 1 else 0)
 | _+1,.int a,.int b=>a == b
 | _+1,.str a,.str b=>a == b
 | n+1,.tup a,.tup b=>jx (qD n) a b
 | n+1,.lst a,.lst b=>jx (qD n) a b
 | _,_,_=>false
noncomputable abbrev eqT:T->T->Bool:=qD 8
noncomputable def qE:T->Bool
 | .int _=>true
 | .str _=>true
 | _=>false
noncomputable def kd:Nat->T->Bool
 | n+1,.tup xs=>xs.all (kd n)
 | _+1,t=>qE t
 | 0,_=>false
noncomputable def FN:T->Bool
 | .tup xs=>xs.all (kd 6)
 | _=>false
noncomputable def kh:Nat->T->Bool
 | n+1,.tup xs=>xs.all (kh n)
 | _+1,.bl _=>true
 | _+1,t=>qE t
 | 0,_=>false
noncomputable def NA:T->Bool
 | .tup xs=>xs.all (kh 6)
 | _=>false
noncomputable def fm (ks:List T):Bool:=(ks.all qE || ks.all FN) || (decide (ks.length<=1) && ks.all NA)
noncomputable def dJ (ks:List (T × T)) (y:T):Prop:=fm (y::ks.map (·.1))=true
noncomputable instance (ks:List (T × T)) (y:T):Decidable (dJ ks y):=by unfold dJ;exact inferInstance
open Classical in
def dh (ks:List (T × T)) (k:T):Option T:=(ks.find? fun p=>decide (p.1=k)).map (·.2)
open Classical in
def dput (ks:List (T × T)) (k v:T):List (T × T) :=
 if (ks.any fun p=>decide (p.1=k))=true then ks.map (fun p=>if p.1=k then (p.1,v) else p) else ks++[(k,v)]
noncomputable def su (i j:Int):Prop:=(-(2 ^ 64)<i/\i<2 ^ 64)\/(-(2 ^ 64)<j/\j<2 ^ 64)
instance (i j:Int):Decidable (su i j):=Sd _
noncomputable def vA (j:Int):Prop:=0<j/\j<1073741824
instance (j:Int):Decidable (vA j):=Sd _
noncomputable def Cp (i j:Int):Prop:=0<=j/\j<=1000000/\i.natAbs<2 ^ 64
instance (i j:Int):Decidable (Cp i j):=Sd _
noncomputable def qF (j:Int):Prop:=-(2 ^ 62)<=j/\j<=1000000
instance (j:Int):Decidable (qF j):=Sd _
def oI (op:Operator) (i j:Int) (L:aa):R T:=match op with
 | .Add=>.ok (.int (i+j)) L
 | .Sub=>.ok (.int (i - j)) L
 | .Mult=>a8 (su i j) (.ok (.int (i * j)) L)
 | .FloorDiv=>a8 (vA j) (.ok (.int (i / j)) L)
 | .Mod=>a8 (0<j) (.ok (.int (i % j)) L)
 | .Pow=>a8 (Cp i j) (.ok (.int (i ^ j.toNat)) L)
 | _=>.bad
def oS (op:Operator) (a:Cs) (y:T) (L:aa):R T:=match y with
 | .str b=>match op with
  | .Add=>a8 (a.length+b.length<=lim) (.ok (.str (a++b)) L)
  | _=>.bad
 | .int j=>match op with
  | .Mult=>match a with
   | [ch]=>a8 (qF j) (.ok (.str (Q7 j.toNat ch)) L)
   | _=>.bad
  | _=>.bad
 | _=>.bad
def aH (fz:Bool) (op:Operator) (x y:T) (L:aa):R T:=match vw L x with
 | .int i=>match vw L y with
  | .int j=>oI op i j L
  | _=>.bad
 | .str a=>oS op a (vw L y) L
 | .lst a=>match vw L y with
  | .lst b=>match op with
   | .Add=>fk fz (a++b) L
   | _=>.bad
  | _=>.bad
 | _=>.bad
noncomputable def ag (op:Operator) (x y:T) (L:aa):R T:=match op,x,y with
 | .Add,.int i,.int j=>.ok (.int (i+j)) L
 | .Sub,.int i,.int j=>.ok (.int (i - j)) L
 | .Add,.ref n,y=>match at_ L n,vw L y with
  | some (.lst xs),.lst ys=>a8 (xs.length+ys.length<=lim) (.ok (.ref n) (put L n (.lst (xs++ys))))
  | _,_=>.bad
 | _,_,_=>.bad
noncomputable def sx (x y:T) (L:aa):R Bool:=a8 (dat 8 (vw L x)=true/\dat 8 (vw L y)=true) (.ok (eqT (vw L x) (vw L y)) L)
noncomputable def IB (x y:T) (L:aa):R Bool:=match x,y with
 | .int i,.int j=>.ok (i != j) L
 | .str a,.str b=>.ok (a != b) L
 | .lst a,.lst []=>.ok (!a.isEmpty) L
 | _,_=>.bad
noncomputable def IC (x y:T) (L:aa):R Bool:=match x,y with
 | .int i,.int j=>.ok (decide (i<j)) L
 | .str a,.str b=>.ok (decide (a<b)) L
 | .lst a,.lst b=>a8 (dat 8 (.lst a)=true/\dat 8 (.lst b)=true/\eqT (.lst a) (.lst b)=true) (.ok false L)
 | _,_=>.bad
noncomputable def ID (x y:T) (L:aa):R Bool:=match x,y with
 | .int i,.int j=>.ok (decide (j<i)) L
 | _,_=>.bad
noncomputable def Cq (x y:T) (L:aa):R Bool:=match x,y with
 | .int i,.int j=>.ok (decide (i<=j)) L
 | _,_=>.bad
def jy (x y:T) (L:aa):R Bool:=match vw L y with
 | .str b=>match x with
  | .str [ch]=>.ok (decide (ch∈b)) L
  | _=>.bad
 | .lst ys=>a8 (dat 8 x=true/\ys.all (dat 8)=true) (.ok (ys.any fun y=>eqT y x) L)
 | .tup ys=>a8 (dat 8 x=true/\ys.all (dat 8)=true) (.ok (ys.any fun y=>eqT y x) L)
 | .ah ks=>a8 (dJ ks x) (.ok (dh ks x).isSome L)
 | _=>.bad
noncomputable def IE:T->Bool
 | .bj=>true
 | _=>false
noncomputable def R.map {α β:Type} (f:α->β):R α->R β
 | .ok a L=>.ok (f a) L
 | .bad=>.bad
def y9 (op:CmpOp) (x y:T) (L:aa):R Bool:=match op with
 | .Eq=>sx x y L
 | .NotEq=>IB x y L
 | .Lt=>IC x y L
 | .Gt=>ID x y L
 | .LtE=>Cq x y L
 | .GtE=>Cq y x L
 | .In=>jy x y L
 | .NotIn=>(jy x y L).map (!·)
 | .Is=>match y with
  | .bj=>.ok (IE x) L
  | _=>.bad
 | .IsNot=>match y with
  | .bj=>.ok (!IE x) L
  | _=>.bad
def cmp (op:CmpOp) (x y:T) (L:aa):R T:=(y9 op x y L).map .bl
noncomputable def place (n:Nat) (i:Int):Option Nat:=if 0<=i then (if i<n then some i.toNat else none) else if -(n:Int)<=i then some (i+n).toNat else none
def ix (x y:T) (L:aa):R T:=match vw L x with
 | .str s=>match y with
  | .int i=>lift (((place s.length i).bind fun k=>s[k]?).map fun ch=>.str [ch]) L
  | _=>.bad
 | .tup xs=>match y with
  | .int i=>lift ((place xs.length i).bind fun k=>xs[k]?) L
  | _=>.bad
 | .lst xs=>match y with
  | .int i=>lift ((place xs.length i).bind fun k=>xs[k]?) L
  | _=>.bad
 | .ah ks=>a8 (dJ ks y) (lift (dh ks y) L)
 | _=>.bad
noncomputable def clip (n d:Nat):Option Int->Nat
 | none=>d
 | some i=>if i<0 then (i+n).toNat else min i.toNat n
noncomputable def cut {α:Type} (xs:List α) (lo hi:Option Int):List α:=(xs.drop (clip xs.length 0 lo)).take (clip xs.length xs.length hi - clip xs.length 0 lo)
noncomputable def mr (fz:Bool) (x:T) (lo hi:Option Int) (L:aa):R T:=match vw L x with
 | .str s=>match lo,hi with
  | some i,some j=>a8 (0<=i/\i<=j/\j<=s.length) (.ok (.str ((s.drop i.toNat).take (j - i).toNat)) L)
  | none,some j=>a8 (0<=j/\j<=s.length) (.ok (.str (s.take j.toNat)) L)
  | some i,none=>a8 (0<=i/\i<=s.length) (.ok (.str (s.drop i.toNat)) L)
  | _,_=>.bad
 | .tup xs=>.ok (.tup (cut xs lo hi)) L
 | .lst xs=>fk fz (cut xs lo hi) L
 | _=>.bad
noncomputable def fld (f:Str) (x:T) (L:aa):R T:=match vw L x with
 | .obj _ fs=>lift (fs.lookup f) L
 | _=>.bad
noncomputable def v (i:Nat):SE:=fun φ L=>lift ((φ[i]?).join) L
noncomputable def c (x:T):SE:=fun _ L=>.ok x L
noncomputable def no {α:Type}:Fr->aa->R α:=fun _ _=>.bad
noncomputable def gz:List SE->SA
 | [],_,L=>.ok [] L
 | m::ms,φ,L=>(m φ L).bind fun t L1=>(gz ms φ L1).bind fun ts L2=>.ok (t::ts) L2
noncomputable def b1 (a:SE) (f:T->aa->R T):SE:=fun φ L=>(a φ L).bind f
noncomputable def b2 (a b:SE) (f:T->T->aa->R T):SE:=fun φ L=>(a φ L).bind fun x L1=>(b φ L1).bind fun y L2=>f x y L2
noncomputable def neg (x:T) (L:aa):R T:=match x with
 | .int i=>.ok (.int (-i)) L
 | _=>.bad
def uc (op mv:CmpOp) (a b d:SE):SE:=fun φ L=>(a φ L).bind fun x L1=>(b φ L1).bind fun y L2=>(y9 op x y L2).bind fun k L3=>if k=true then (d φ L3).bind fun z L4=>cmp mv y z L4 else .ok (.bl false) L3
noncomputable def tv (a:SE):ST:=fun φ L=>(a φ L).bind fun x L1=>match x with
 | .bl b=>.ok b L1
 | _=>.bad
noncomputable def zc (a b:ST):ST:=fun φ L=>(a φ L).bind fun x L1=>if x=true then b φ L1 else .ok false L1
noncomputable def IF (a b:ST):ST:=fun φ L=>(a φ L).bind fun x L1=>if x=true then .ok true L1 else b φ L1
noncomputable def dK (a:ST):ST:=fun φ L=>(a φ L).map (!·)
noncomputable def zd (a b:SE):SE:=fun φ L=>(tv a φ L).bind fun x L1=>if x=true then b φ L1 else .ok (.bl false) L1
noncomputable def IG (a b:SE):SE:=fun φ L=>(tv a φ L).bind fun x L1=>if x=true then .ok (.bl true) L1 else b φ L1
noncomputable def oJ (a:SE):SE:=fun φ L=>(tv a φ L).map fun b=>.bl (!b)
noncomputable def yes:ST:=fun _ L=>.ok true L
noncomputable def FO (k:ST) (a b:SE):SE:=fun φ L=>(k φ L).bind fun x L1=>if x=true then a φ L1 else b φ L1
noncomputable def tup (ms:List SE):SE:=fun φ L=>(gz ms φ L).bind fun ts L1=>.ok (.tup ts) L1
noncomputable def lst (fz:Bool) (ms:List SE):SE:=fun φ L=>(gz ms φ L).bind fun ts L1=>fk fz ts L1
noncomputable def ik (fz:Bool):SE:=fun _ L=>mk fz (.ah []) L
noncomputable def Cr:Option SE->Fr->aa->R (Option Int)
 | none,_,L=>.ok none L
 | some m,φ,L=>(m φ L).bind fun t L1=>match t with
  | .int i=>.ok (some i) L1
  | _=>.bad
noncomputable def sl (fz:Bool) (a:SE) (lo hi:Option SE):SE:=fun φ L=>(a φ L).bind fun x L1=>(Cr lo φ L1).bind fun i L2=>(Cr hi φ L2).bind fun j L3=>mr fz x i j L3
noncomputable def af (f:Fn) (ms:List SE):SE:=fun φ L=>(gz ms φ L).bind f
noncomputable def mZ (m:Str) (f:Str->Option Fn) (a:SE) (ms:List SE):SE:=fun φ L=>(a φ L).bind fun x L1=>match vw L1 x with
 | .obj c fs=>match f c with
  | some F=>if (fs.lookup m).isNone=true then (gz ms φ L1).bind fun ts L2=>F (x::ts) L2 else .bad
  | none=>.bad
 | _=>.bad
inductive Ty where
 | s|l|t|d
noncomputable def Bv (L:aa) (t:T):Option Ty:=match vw L t with
 | .str _=>some .s
 | .lst _=>some .l
 | .tup _=>some .t
 | .ah _=>some .d
 | _=>none
noncomputable def ar (f:Ty->Option (T->Fn)) (a:SE) (ms:List SE):SE:=fun φ L=>(a φ L).bind fun x L1=>match (Bv L1 x).bind f with
 | some F=>(gz ms φ L1).bind fun ts L2=>F x ts L2
 | none=>.bad
open Classical in
def stays (x:T) (L:aa):aa->Prop:=fun L'=>∀n,x=.ref n->at_ L' n=at_ L n
noncomputable def items (x:T) (L:aa):Option (List T):=match vw L x with
 | .str s=>some (s.map fun ch=>.str [ch])
 | .tup xs=>some xs
 | .lst xs=>some xs
 | .ah []=>some []
 | _=>none
def src (a:SE):SI:=fun φ L=>(a φ L).bind fun x L1=>match items x L1 with
 | some xs=>.ok (xs,stays x L1) L1
 | none=>.bad
noncomputable def upTo (lo:Int) (n:Nat):List T:=(RV n).map fun(k:Nat)=>.int (lo+k)
noncomputable def qG (i:Int):Prop:=-(2 ^ 62)<=i/\i<2 ^ 62
instance (i:Int):Decidable (qG i):=Sd _
def ud (a b:SE):SI:=fun φ L=>(a φ L).bind fun x L1=>(b φ L1).bind fun y L2=>match x,y with
 | .int i,.int j=>a8 (qG i/\qG j) (.ok (upTo i (j - i).toNat,fun _=>True) L2)
 | _,_=>.bad
noncomputable def num (n:Nat):List T->List T
 | []=>[]
 | x::r=>.tup [.int n,x]::num (n+1) r
def zf (a:SE):SI:=fun φ L=>(a φ L).bind fun x L1=>match vw L1 x with
 | .lst xs=>.ok (num 0 xs,stays x L1) L1
 | _=>.bad
noncomputable def zp (xs ys:List T):List T:=(xs.zip ys).map fun p=>.tup [p.1,p.2]
def Ji (a b:SE):SI:=fun φ L=>(src a φ L).bind fun p L1=>(src b φ L1).bind fun q L2=>.ok (zp p.1 q.1,fun L'=>p.2 L'/\q.2 L') L2
noncomputable def yT (ks:List (T × T)):List T:=ks.map fun p=>.tup [p.1,p.2]
def zi (a:SE):SI:=fun φ L=>(a φ L).bind fun x L1=>match vw L1 x with
 | .ah []=>.ok ([],stays x L1) L1
 | _=>.bad
inductive Tg where
 | one (i:Nat)|many (is:List Nat)
noncomputable def sets:List Nat->List T->Fr->Fr
 | i::is,t::ts,φ=>sets is ts (φ.set i (some t))
 | _,_,φ=>φ
noncomputable def Tg.set:Tg->T->Fr->Option Fr
 | .one i,t,φ=>some (φ.set i (some t))
 | .many is,.tup ts,φ=>if ts.length=is.length then some (sets is ts φ) else none
 | _,_,_=>none
open Classical in
def compLoop (k:aa->Prop) (tg:Tg) (ts:ST) (m:SE) (ψ:Fr):List T->List T->aa->R (List T)
 | [],acc,L=>if k L then .ok acc L else .bad
 | t::r,acc,L=>if k L/\acc.length<lim then match tg.set t ψ with
   | some ψ1=>(ts ψ1 L).bind fun b L1=>if b=true then (m ψ1 L1).bind fun y L2=>compLoop k tg ts m ψ r (acc++[y]) L2 else compLoop k tg ts m ψ r acc L1
   | none=>.bad
  else .bad
noncomputable def inner (aA:List (Option Nat)) (φ:Fr):Fr:=aA.map fun o=>o.bind fun i=>(φ[i]?).join
def comp (fz:Bool) (s:SI) (aA:List (Option Nat)) (tg:Tg) (ts:ST) (m:SE):SE:=fun φ L=>(s φ L).bind fun u L1=>(compLoop u.2 tg ts m (inner aA φ) u.1 [] L1).bind fun xs L2=>mk fz (.lst xs) L2
noncomputable def O.next (o:O) (f:Fr->aa->O):O:=match o with
 | .nx φ L=>f φ L
 | o=>o
noncomputable def ab:List SS->SS
 | [],φ,L=>.nx φ L
 | s::r,φ,L=>(s φ L).next (ab r)
noncomputable def pass:SS:=fun φ L=>.nx φ L
noncomputable def brk:SS:=fun φ L=>.bk φ L
noncomputable def cnt:SS:=fun φ L=>.ct φ L
noncomputable def fh:SS:=fun _ _=>.bad
noncomputable def asg (tg:Tg) (m:SE):SS:=fun φ L=>O.of (m φ L) fun t L1=>match tg.set t φ with
 | some φ1=>.nx φ1 L1
 | none=>.bad
noncomputable def df (m:SE):SS:=fun φ L=>O.of (m φ L) fun _ L1=>.nx φ L1
noncomputable def ret (m:SE):SS:=fun φ L=>O.of (m φ L) fun t L1=>.rt t L1
noncomputable def iff (k:ST) (a b:SS):SS:=fun φ L=>O.of (k φ L) fun x L1=>if x=true then a φ L1 else b φ L1
noncomputable def aug (op:Operator) (i:Nat) (m:SE):SS:=fun φ L=>O.of (b2 (v i) m (ag op) φ L) fun t L1=>.nx (φ.set i (some t)) L1
noncomputable def il (fs:List (Str × T)) (f:Str) (t:T):List (Str × T):=match fs with
 | []=>[(f,t)]
 | (g,u)::r=>if g=f then (f,t)::r else (g,u)::il r f t
noncomputable def oK (f:Str) (x t:T) (L:aa):Option aa:=match x with
 | .ref n=>match at_ L n with
  | some (.obj c fs)=>if fs.length<200 then some (put L n (.obj c (il fs f t))) else none
  | _=>none
 | _=>none
noncomputable def dM (o:SE) (f:Str) (m:SE):SS:=fun φ L=>O.of (m φ L) fun t L1=>O.of (o φ L1) fun x L2=>match oK f x t L2 with
 | some L3=>.nx φ L3
 | none=>.bad
def lN (x y t:T) (L:aa):Option aa:=match x with
 | .ref n=>match at_ L n with
  | some (.ah ks)=>if ks.length<lim/\dJ ks y then some (put L n (.ah (dput ks y t))) else none
  | some (.lst xs)=>match y with
   | .int i=>if 0<=i/\i<xs.length then some (put L n (.lst (xs.set i.toNat t))) else none
   | _=>none
  | _=>none
 | _=>none
def oL (o i m:SE):SS:=fun φ L=>O.of (m φ L) fun t L1=>O.of (o φ L1) fun x L2=>O.of (i φ L2) fun y L3=>match lN x y t L3 with
 | some L4=>.nx φ L4
 | none=>.bad
def Jj (x y:T) (L:aa):R T:=match vw L x with
 | .ah ks=>a8 (dJ ks y) (lift (dh ks y) L)
 | _=>.bad
def vB (op:Operator) (o i m:SE):SS:=fun φ L=>O.of (o φ L) fun x L1=>O.of (i φ L1) fun y L2=>O.of (Jj x y L2) fun z L3=>O.of (m φ L3) fun t L4=>O.of (ag op z t L4) fun r L5=>match lN x y r L5 with
 | some L6=>.nx φ L6
 | none=>.bad
noncomputable def lO (k:ST) (b:SS):Nat->SS
 | 0,_,_=>.bad
 | n+1,φ,L=>O.of (k φ L) fun x L1=>if x=true then match b φ L1 with
   | .nx φ2 L2=>lO k b n φ2 L2
   | .ct φ2 L2=>lO k b n φ2 L2
   | .bk φ2 L2=>.nx φ2 L2
   | o=>o
  else .nx φ L1
open Classical in
def forL (k:aa->Prop) (tg:Tg) (b:SS):List T->SS
 | [],φ,L=>if k L then .nx φ L else .bad
 | t::r,φ,L=>if k L then match tg.set t φ with
   | some φ1=>match b φ1 L with
    | .nx φ2 L2=>forL k tg b r φ2 L2
    | .ct φ2 L2=>forL k tg b r φ2 L2
    | .bk φ2 L2=>.nx φ2 L2
    | o=>o
   | none=>.bad
  else .bad
def aT (s:SI) (tg:Tg) (b:SS):SS:=fun φ L=>O.of (s φ L) fun u L1=>forL u.2 tg b u.1 φ L1
mutual
noncomputable def lt (n:Nat):T->Bool
 | .ref k=>decide (k<n)
 | .tup xs=>fj n xs
 | .lst xs=>fj n xs
 | .ah ks=>yU n ks
 | .obj _ fs=>jG n fs
 | _=>true
noncomputable def fj (n:Nat):List T->Bool
 | []=>true
 | x::xs=>lt n x && fj n xs
noncomputable def yU (n:Nat):List (T × T)->Bool
 | []=>true
 | (x,y)::xs=>lt n x && lt n y && yU n xs
noncomputable def jG (n:Nat):List (Str × T)->Bool
 | []=>true
 | (_,y)::xs=>lt n y && jG n xs
end
noncomputable def bZ (n0:Nat) (L:aa):Nat->T->Option T
 | 0,_=>none
 | k+1,t=>if lt n0 t=true then some t else match t with
  | .ref n=>match at_ L n with
   | some c=>bZ n0 L k c
   | none=>none
  | .tup xs=>(xs.mapM (bZ n0 L k)).map .tup
  | .lst xs=>(xs.mapM (bZ n0 L k)).map .lst
  | .ah ks=>(ks.mapM fun p=>if lt n0 p.1=true then (bZ n0 L k p.2).map fun x=>(p.1,x) else none).map .ah
  | .obj c fs=>(fs.mapM fun p=>(bZ n0 L k p.2).map fun x=>(p.1,x)).map (.obj c)
  | _=>none
noncomputable def old (L Lo:aa):Prop:=∀n c,at_ Lo n=some c->at_ L n=some c\/lt L.length c=true
open Classical in
def fin (L:aa) (t:T) (L':aa):R T:=if old L (L'.drop (L'.length - L.length)) then lift (bZ L.length L' 9 t) (L'.drop (L'.length - L.length)) else .bad
def run (np nn:Nat) (b:SS):Fn:=fun xs L=>if xs.length=np then match b (xs.map some++Q7 (nn - np) none) L with
  | .rt t L'=>fin L t L'
  | .nx _ L'=>fin L .bj L'
  | _=>.bad
 else .bad
def make (cn:Str) (init:Fn):Fn:=fun xs L=>match init (.ref L.length::xs) (.obj cn []::L) with
 | .ok .bj L'=>fin L (.ref L.length) L'
 | _=>.bad
end M
namespace M
open PySem PySem.Spec PyProof.Rows
noncomputable def di:Fn:=fun xs L=>match xs with
 | [x]=>match vw L x with
  | .str s=>.ok (.int s.length) L
  | .tup ys=>.ok (.int ys.length) L
  | .lst ys=>.ok (.int ys.length) L
  | _=>.bad
 | _=>.bad
noncomputable def dm (fz:Bool):Fn:=fun xs L=>match xs with
 | [x]=>match vw L x with
  | .tup ys=>fk fz ys L
  | .lst ys=>fk fz ys L
  | .ah ks=>fk fz (ks.map (·.1)) L
  | _=>.bad
 | _=>.bad
noncomputable def jW:Fn:=fun xs L=>match xs with
 | [x]=>match vw L x with
  | .tup ys=>.ok (.tup ys) L
  | .lst ys=>.ok (.tup ys) L
  | _=>.bad
 | _=>.bad
noncomputable def IH:T->Option Bool
 | .bl b=>some b
 | _=>none
noncomputable def NB:T->Option Int
 | .int i=>some i
 | _=>none
noncomputable def Fp:T->Option Cs
 | .str s=>some s
 | _=>none
noncomputable def FP {α:Type} (f:T->Option α) (g:List α->T):Fn:=fun xs L=>match xs with
 | [x]=>match vw L x with
  | .lst ys=>lift ((ys.mapM f).map g) L
  | _=>.bad
 | _=>.bad
noncomputable def lP:Fn:=FP IH fun bs=>.bl (bs.all id)
noncomputable def m4:Fn:=FP IH fun bs=>.bl (bs.any id)
noncomputable def zk:Fn:=fun xs L=>match xs with
 | [.int i,.int j]=>.ok (.int (if j<i then j else i)) L
 | [.str a,.str b]=>.ok (.str (if b<a then b else a)) L
 | _=>.bad
noncomputable def lQ:Fn:=fun xs L=>match xs with
 | [.int i]=>a8 (i.natAbs.log2<1920/\(Sa (toString i)).cps.toList.length<=lim) (.ok (.str (Sa (toString i)).cps.toList) L)
 | _=>.bad
noncomputable def ue:Fn:=fun xs L=>match xs with
 | [.str z]=>match PySem.intText? ⟨z.toArray⟩ with
  | some n=>a8 (z.length<=640) (.ok (.int n) L)
  | none=>.bad
 | _=>.bad
noncomputable def Jk (L:aa) (n:String):T->R T
 | .bl _=>if n="bool" then .ok (.bl true) L else if n="int" then .ok (.bl true) L else .bad
 | .int _=>if n="bool" then .ok (.bl false) L else if n="int" then .ok (.bl true) L else .bad
 | .tup _=>if n="tuple" then .ok (.bl true) L else .bad
 | .lst _=>if n="list" then .ok (.bl true) L else .bad
 | _=>.bad
noncomputable def Jl:T->Option String
 | .cl c=>match c with
  | .type n=>some n
  | _=>none
 | _=>none
noncomputable def Cu:Fn:=fun xs L=>match xs with
 | [x,y]=>match Jl y with
  | some n=>Jk L n x
  | none=>.bad
 | _=>.bad
noncomputable def toS (z:Cs):Str:=⟨z.toArray⟩
noncomputable def zm:T->Fn:=fun x ts L=>match x,ts with
 | .ref n,[t]=>match at_ L n with
  | some (.lst xs)=>a8 (xs.length<lim) (.ok .bj (put L n (.lst (xs++[t]))))
  | _=>.bad
 | _,_=>.bad
noncomputable def vC:T->Fn:=fun x ts L=>match x,ts with
 | .ref n,[t]=>match at_ L n,vw L t with
  | some (.lst xs),.lst ys=>a8 (xs.length+ys.length<=lim) (.ok .bj (put L n (.lst (xs++ys))))
  | some (.lst xs),.tup ys=>a8 (xs.length+ys.length<=lim) (.ok .bj (put L n (.lst (xs++ys))))
  | _,_=>.bad
 | _,_=>.bad
noncomputable def sy:T->Fn:=fun x ts L=>match vw L x,ts with
 | .lst xs,[t]=>a8 (dat 8 t=true/\xs.all (dat 8)=true) (.ok (.int (xs.countP fun y=>eqT y t:Nat)) L)
 | _,_=>.bad
noncomputable def sA:T->Fn:=fun x ts L=>match vw L x,ts with
 | .tup xs,[t]=>a8 (dat 8 t=true/\xs.all (dat 8)=true) (.ok (.int (xs.countP fun y=>eqT y t:Nat)) L)
 | _,_=>.bad
noncomputable def zo:T->Fn:=fun x ts L=>match x,ts with
 | .tup xs,[t]=>a8 (dat 8 t=true/\xs.all (dat 8)=true) (match xs.findIdx? fun y=>eqT y t with
  | some j=>.ok (.int j) L
  | none=>.bad)
 | _,_=>.bad
noncomputable def jn (sep:Cs):List Cs->Cs
 | []=>[]
 | x::r=>match r with
  | []=>x
  | _::_=>x++sep++jn sep r
noncomputable def oM:T->Fn:=fun x ts L=>match x,ts with
 | .str sep,[t]=>match (items t L).bind fun ys=>ys.mapM Fp with
  | some zs=>match vw L t with
   | .str _=>.bad
   | .ah _=>.bad
   | _=>a8 ((zs.map (·.length)).sum+zs.length * sep.length<=16777216) (.ok (.str (jn sep zs)) L)
  | none=>.bad
 | _,_=>.bad
noncomputable def jX (fz:Bool):T->Fn:=fun x ts L=>match x,ts with
 | .str z,[.str y]=>a8 (y≠[]/\((Uy (toS z) (toS y)).all fun s=>decide (s.cps.toList.length<=lim))=true) (fk fz ((Uy (toS z) (toS y)).map fun s=>.str s.cps.toList) L)
 | _,_=>.bad
noncomputable def jY:T->Fn:=fun x ts L=>match x,ts with
 | .str z,[.str y]=>a8 ((VT (toS z) (toS y)).cps.toList.length<=lim) (.ok (.str (VT (toS z) (toS y)).cps.toList) L)
 | _,_=>.bad
def lR:T->Fn:=fun x ts L=>match vw L x,ts with
 | .ah ks,[y,t]=>a8 (dJ ks y) (.ok ((dh ks y).getD t) L)
 | _,_=>.bad
def Cv:T->Fn:=fun x ts L=>match x,ts with
 | .ref n,[y,t]=>match at_ L n with
  | some (.ah ks)=>a8 (ks.length<lim/\dJ ks y) (match dh ks y with
   | some z=>.ok z L
   | none=>.ok t (put L n (.ah (dput ks y t))))
  | _=>.bad
 | _,_=>.bad
noncomputable def prsOf:List T->Option (List (T × T))
 | []=>some []
 | t::r=>match t,prsOf r with
  | .tup [k,x],some ps=>some ((k,x)::ps)
  | _,_=>none
def m5 (ps:List (T × T)):List (T × T):=ps.foldl (fun acc p=>dput acc p.1 p.2) []
def sC (ys:List T) (L:aa):R T:=match prsOf ys with
 | some ps=>a8 (fm (ps.map (·.1))=true/\ps.length<=100000) (.ok (.ref L.length) (.ah (m5 ps)::L))
 | none=>.bad
def bK:Fn:=fun xs L=>match xs with
 | [x]=>match vw L x with
  | .lst ys=>sC ys L
  | .tup ys=>sC ys L
  | .ah []=>.ok (.ref L.length) (.ah []::L)
  | _=>.bad
 | _=>.bad
abbrev Hp:=Rm->Option (Bool × Obj)
noncomputable def upd (H:Hp) (a:Rm) (x:Bool × Obj):Hp:=fun b=>if b=a then some x else H b
theorem aj {H:Hp} {a x}:upd H a x a=some x:=if_pos rfl
theorem au {H:Hp} {a b x} (h:b≠a):upd H a x b=H b:=if_neg h
structure G where
 H:Hp
 α:List (Rm × Rm)
 B:Heap
 cls:Str->Option Rm
 w:SU
noncomputable def G.kn (g:G) (b:Bool) (a:Rm) (o:Obj):Prop:=g.H a=some (b,o)\/(b=true/\g.B.get? a=some o)
noncomputable def qH (p:Option (Rm × Rm)) (a d:Rm):Prop:=p=none\/p=some (a,d)
mutual
noncomputable def hT (w:SU):T->Int
 | .int i=>hashInt i
 | .str s=>hashStr w ⟨s.toArray⟩
 | .tup xs=>reduceHash (Uz (yV w xs))
 | .bl b=>hashInt (if b=true then 1 else 0)
 | _=>0
noncomputable def yV (w:SU):List T->List Int
 | []=>[]
 | x::xs=>hT w x::yV w xs
end
inductive RT (g:G):Option (Rm × Rm)->T->QN->Prop
 | bj:RT g none .bj .none
 | bl (b):RT g none (.bl b) (.bool b)
 | int (i t):RT g none (.int i) (.int i t)
 | str (s t) (h:s.length<=Q9):RT g none (.str s) (.str ⟨s.toArray⟩ t)
 | ty (n):RT g none (.cl (.type n)) (.type n)
 | own {n C} (h:g.cls n=some C):RT g none (.cl (.ref C)) (.ref C)
 | ref {n p} (h:at_ g.α n=some p):RT g none (.ref n) (.ref p.1)
 | tup {a o its n xs} (hk:g.kn true a o) (hc:o.cls=.type "tuple"/\o.dict=none) (hd:o.data=.seq its n) (hz:xs.length<=Q9) (hl:xs.length=its.size)
   (hi:∀(i:Nat) x v,xs[i]?=some x->its[i]?=some v->RT g none x v):RT g none (.tup xs) (.ref a)
 | lst {p a its n xs} (ht:qH p a a) (hk:g.kn p.isNone a { cls:=.type "list",data:=.seq its n }) (hz:xs.length<=Q9) (hl:xs.length=its.size)
   (hi:∀(i:Nat) x v,xs[i]?=some x->its[i]?=some v->RT g none x v):RT g p (.lst xs) (.ref a)
 | ah {p a o es n ks} (ht:qH p a a) (hk:g.kn p.isNone a o) (hx:o.ExactDict) (hd:o.data=.dict es n) (hz:ks.length<=Q9) (hl:ks.length=es.size) (hn:(ks.map (·.1)).Nodup/\fm (ks.map (·.1))=true) (hs:(a == sysModules)=false)
   (hh:∀(i:Nat) x e,ks[i]?=some x->es[i]?=some e->e.hash=hT g.w x.1) (h1:∀(i:Nat) x e,ks[i]?=some x->es[i]?=some e->RT g none x.1 e.key)
   (h2:∀(i:Nat) x e,ks[i]?=some x->es[i]?=some e->RT g none x.2 e.val):RT g p (.ah ks) (.ref a)
 | obj {p a d C od es n c fs} (ht:qH p a d) (hne:d≠a) (hc:g.cls c=some C) (hk:g.kn p.isNone a (R3 C d)) (lK:g.kn p.isNone d od) (hd:od.data=.dict es n) (hs:StrKeys es) (hu:UniqKeys es)
   (hz:fs.length<=1000) (hn:(fs.map (·.1)).Nodup) (hl:∀f,(fs.lookup f).isSome=(nsFind es f).isSome) (hi:∀f x v,fs.lookup f=some x->nsFind es f=some v->RT g none x v):RT g p (.obj c fs) (.ref a)
structure Le (g g':G):Prop where
 f:∀a o,g.H a=some (true,o)->g'.H a=some (true,o)
 α:∀n p,at_ g.α n=some p->at_ g'.α n=some p
 B:g'.B=g.B
 m:g'.cls=g.cls
 w:g'.w=g.w
theorem Le.refl (g:G):Le g g:=⟨fun _ _ h=>h,fun _ _ h=>h,rfl,rfl,rfl⟩
theorem Le.trans {a b c:G} (x:Le a b) (y:Le b c):Le a c:=⟨fun _ _ h=>y.f _ _ (x.f _ _ h),fun _ _ h=>y.α _ _ (x.α _ _ h),y.B.trans x.B,y.m.trans x.m,y.w.trans x.w⟩
theorem Le.kn {g g':G} (l:Le g g') {a o} (h:g.kn true a o):g'.kn true a o:=by
 rcases h with h|⟨_,h⟩
 ·exact .inl (l.f _ _ h)
 ·exact .inr ⟨rfl,by rw [l.B];exact h⟩
theorem RT.up {g g':G} (l:Le g g') {p:Option (Rm × Rm)} (hp:∀q,p=some q->g'.H q.1=g.H q.1/\g'.H q.2=g.H q.2) {t v} (h:RT g p t v):RT g' p t v:=by
 have kn:∀{p:Option (Rm × Rm)} {a d b o},(∀q,p=some q->g'.H q.1=g.H q.1/\g'.H q.2=g.H q.2)->qH p a d->b=a\/b=d->g.kn p.isNone b o->g'.kn p.isNone b o:=fun {p a d b o} hp ht hb hk=>by
  rcases ht with rfl|rfl
  ·exact l.kn hk
  ·rcases hk with hk|⟨z,_⟩
   ·refine .inl ?_
    rcases hb with rfl|rfl
    ·rw [(hp _ rfl).1];exact hk
    ·rw [(hp _ rfl).2];exact hk
   ·cases z
 have n0:∀q:Rm × Rm,(none:Option (Rm × Rm))=some q->g'.H q.1=g.H q.1/\g'.H q.2=g.H q.2:=fun q z=>by cases z
 induction h with
 | bj=>exact .bj
 | bl b=>exact .bl b
 | int i t=>exact .int i t
 | str s t h=>exact .str s t h
 | ty n=>exact .ty n
 | own h=>exact .own (by rw [l.m];exact h)
 | ref h=>exact .ref (l.α _ _ h)
 | tup hk hc hd hz hl hi ih=>exact .tup (l.kn hk) hc hd hz hl fun i x v e1 e2=>ih i x v e1 e2 n0
 | lst ht hk hz hl hi ih=>exact .lst ht (kn hp ht (.inl rfl) hk) hz hl fun i x v e1 e2=>ih i x v e1 e2 n0
 | ah ht hk hx hd hz hl hn hs hh h1 h2 i1 i2=>exact .ah ht (kn hp ht (.inl rfl) hk) hx hd hz hl hn hs (by rw [l.w];exact hh) (fun i x v e1 e2=>i1 i x v e1 e2 n0) fun i x v e1 e2=>i2 i x v e1 e2 n0
 | obj ht hne hc hk lK hd hs hu hz hn hl hi ih=>exact .obj ht hne (by rw [l.m];exact hc) (kn hp ht (.inl rfl) hk) (kn hp ht (.inr rfl) lK) hd hs hu hz hn hl fun f x v e1 e2=>ih f x v e1 e2 n0
theorem RT.le {g g':G} {t v} (h:RT g none t v) (l:Le g g'):RT g' none t v:=h.up l (fun _ z=>by cases z)
theorem RT.iI {g:G} {p:Option (Rm × Rm)} {i:Int} {v:QN} (h:RT g p (.int i) v):∃t,v=.int i t:=by cases h;exact⟨_,rfl⟩
noncomputable def Jm (g:G) (xs:List T) (its:Array QN):Prop:=xs.length=its.size/\∀(i:Nat) x v,xs[i]?=some x->its[i]?=some v->RT g none x v
theorem RT.cI {g:G} {p:Option (Rm × Rm)} {n:String} {v:QN} (h:RT g p (.cl (.type n)) v):v=.type n:=by cases h;rfl
theorem RT.nI {g:G} {p:Option (Rm × Rm)} {v:QN} (h:RT g p .bj v):v=.none:=by cases h;rfl
theorem RT.bI {g:G} {p:Option (Rm × Rm)} {b:Bool} {v:QN} (h:RT g p (.bl b) v):v=.bool b:=by cases h;rfl
theorem RT.gP {g:G} {p:Option (Rm × Rm)} {z:Cs} {v:QN} (h:RT g p (.str z) v):∃t,v=.str ⟨z.toArray⟩ t/\z.length<=Q9:=by cases h with|str _ t h=>exact⟨t,rfl,h⟩
theorem RT.sI {g:G} {p:Option (Rm × Rm)} {z:Cs} {v:QN} (h:RT g p (.str z) v):∃t,v=.str ⟨z.toArray⟩ t:=h.gP.imp fun _ h=>h.1
theorem RT.tI {g:G} {p:Option (Rm × Rm)} {xs:List T} {v:QN} (h:RT g p (.tup xs) v):RT g none (.tup xs) v/\∃a o its n,v=.ref a/\g.kn true a o/\(o.cls=.type "tuple"/\o.dict=none)/\o.data=.seq its n/\xs.length<=Q9/\Jm g xs its:=by cases h with|tup hk hc hd hz hl hi=>exact⟨.tup hk hc hd hz hl hi,_,_,_,_,rfl,hk,hc,hd,hz,hl,hi⟩
abbrev bM (g:G) (xs:List T) (us:List QN):Prop:=Paired (RT g none) xs us
theorem bM.le {g g':G} {xs us} (h:bM g xs us) (l:Le g g'):bM g' xs us:=by
 induction h with
 | nil=>exact .nil
 | cons a _ ih=>exact .cons (a.le l) ih
theorem cS {α β:Type} {F:α->β->Prop}:∀{xs:List α} {ys:List β},xs.length=ys.length->(∀(i:Nat) x v,xs[i]?=some x->ys[i]?=some v->F x v)->Paired F xs ys
 | [],[],_,_=>.nil
 | x::xs,y::ys,hl,h=>.cons (h 0 x y rfl rfl) (cS (by simpa using hl) fun i a b e1 e2=>h (i+1) a b (by simpa using e1) (by simpa using e2))
theorem qI {α β:Type} {F:α->β->Prop} {xs:List α} {ys:List β} (h:Paired F xs ys):∀(i:Nat) x v,xs[i]?=some x->ys[i]?=some v->F x v:=by
 induction h with
 | nil=>intro i x v e;simp at e
 | cons a _ ih =>
  intro i x v e1 e2;cases i with
  | zero=>simp at e1 e2;subst e1 e2;exact a
  | succ i=>exact ih i x v (by simpa using e1) (by simpa using e2)
theorem qJ {α β:Type} {F:α->β->Prop} {xs:List α} {ys:List β} (h:Paired F xs ys) {i:Nat} {x} (e:xs[i]?=some x):∃v,ys[i]?=some v/\F x v:=by
 have hl:=Q0 h;have hi:i<ys.length:=by rw [<- hl];exact(Q2.mp e).1
 exact⟨ys[i],by simp,qI h i x _ e (by simp)⟩
structure Rel (g:G) (L:aa):Prop where
 len:g.α.length=L.length
 cells:∀n c,at_ L n=some c->∃p,at_ g.α n=some p/\RT g (some p) c (.ref p.1)
 apart:∀n m p q,at_ g.α n=some p->at_ g.α m=some q->n≠m->p.1≠q.1/\p.1≠q.2/\p.2≠q.1/\p.2≠q.2
 live:∀n p,at_ g.α n=some p->(∃o,g.H p.1=some (false,o))/\∃o,g.H p.2=some (false,o)
noncomputable def yW (H:Hp) (h:Heap):Prop:=∀a b o,H a=some (b,o)->h.get? a=some o
structure Un (ex:List Rm) (H H':Hp) (h h':Heap):Prop where
 keep:∀b o,h.get? b=some o->H b=none->b∉ex->h'.get? b=some o
 free:∀b o,h.get? b=some o->H b=none->b∉ex->H' b=none
 bZ:∀b o,H b=some (true,o)->H' b=some (true,o)
theorem Un.trans {ex H H1 H2 h h1 h2} (a:Un ex H H1 h h1) (b:Un ex H1 H2 h1 h2):Un ex H H2 h h2 where
 keep:=fun c o q n x=>b.keep c o (a.keep c o q n x) (a.free c o q n x) x
 free:=fun c o q n x=>b.free c o (a.keep c o q n x) (a.free c o q n x) x
 bZ:=fun c o q=>b.bZ c o (a.bZ c o q)
theorem Un.kept {ex H h h'} (k:∀b u,h.get? b=some u->h'.get? b=some u):Un ex H H h h':=⟨fun b o q _ _=>k b o q,fun _ _ _ n _=>n,fun _ _ q=>q⟩
theorem yW.fresh {H h a} (x:yW H h) (e:h.objs.size<=a):H a=none:=by
 cases q:H a with
 | none=>rfl
 | some u=>exact absurd (Rp (Q1 (x a u.1 u.2 q)) e) (Sk _)
structure Mod (K:Ro) (mg:Str->Option QN) (base:Heap):Prop where
 Fq:K.In base
 glob:base.Ns RR mg
 blt:∃mb,base.Ns builtinsNs mb/\∀x:Str,x≠"__name__"->mb x=bootBuiltins x
 nolimit:base.NoLimit
structure Cx where
 prog:RY
 w:SU
 K:Ro
 mg:Str->Option QN
 cls:Str->Option Rm
 base:Heap
 A:RH
 N:List Str
 s₀:QP
 H₀:Hp
 env:Env
 ex:List Rm
 fn:Str->Bool
noncomputable def II (sc:Scope) (x:Str):Prop:=sc.names.lookup x=some .local\/sc.names.lookup x=some .cell\/sc.names.lookup x=some .free
noncomputable def Loc (sc:Scope) (x:Str):Prop:=sc.names.lookup x=some .local\/sc.names.lookup x=some .cell
noncomputable def Look (env:Env) (h:Heap) (m:Str->Option QN) (x:Str) (u:QN):Prop :=
 (env.kindOf x=some .local/\m x=some u)\/((env.kindOf x=some .cell\/env.kindOf x=some .free)/\∃c,env.cells.lookup x=some c/\h.IsCell c (some u))
structure Cx.Ok (X:Cx):Prop where
 mod:Mod X.K X.mg X.base
 kind:X.env.scope.kind=.function
 glob:X.env.globals=RR
 blt:X.env.builtins=builtinsNs
 above:X.s₀.heap.objs.size<=X.env.locals
 inj:∀x y c,X.env.cells.lookup x=some c->X.env.cells.lookup y=some c->x=y
 has:∀x,(X.env.kindOf x=some .cell\/X.env.kindOf x=some .free)->∃c,X.env.cells.lookup x=some c
 NC:∀x c,X.fn x=true->X.env.cells.lookup x=some c->X.s₀.heap.objs.size<=c
 hd:X.A.handled=none
 Ql:∀b∈X.ex,b≠X.env.locals/\∀x c,X.env.cells.lookup x=some c->c≠b
 bs:∀b o,X.base.get? b=some o->X.s₀.heap.get? b=some o/\X.H₀ b=none
 Fs:X.base.objs.size<=X.s₀.heap.objs.size
 Cw:∀b o,X.base.get? b=some o->b∉X.ex
abbrev aJ:=List (Rm × Obj)
structure Inv (X:Cx) (pins:aJ) (φ:Fr) (g:G) (L:aa) (s:QP):Prop where
 ok:X.Ok
 os:s.os=X.s₀.os
 bare:AllBare s.gens
 base:Un X.ex X.H₀ g.H X.s₀.heap s.heap
 loc:∃m,s.heap.Ns X.env.locals m/\∀(i:Nat) (x:Str) (t:T),X.N[i]?=some x->φ[i]?=some (some t)->II X.env.scope x->∃u,RT g none t u/\Look X.env s.heap m x u
 cell:∀x c,X.env.cells.lookup x=some c->∃v,s.heap.IsCell c v
 free:g.H X.env.locals=none
 oN:∀x c,X.env.cells.lookup x=some c->g.H c=none
 pin:∀p∈pins,s.heap.get? p.1=some p.2/\g.H p.1=none/\p.1≠X.env.locals/\∀v,p.2.data≠.cell v
 hok:yW g.H s.heap
 len:φ.length=X.N.length
 rel:Rel g L
 gB:g.B=X.base
 gm:g.cls=X.cls
 gw:g.w=X.w
section
variable {X:Cx} {pins:aJ} {φ:Fr} {g g':G} {L L':aa} {s:QP} {h':Heap}
theorem Inv.bs (I:Inv X pins φ g L s):∀b o,X.base.get? b=some o->s.heap.get? b=some o/\g.H b=none:=fun b o e =>
 ⟨I.base.keep b o (I.ok.bs b o e).1 (I.ok.bs b o e).2 (I.ok.Cw b o e),I.base.free b o (I.ok.bs b o e).1 (I.ok.bs b o e).2 (I.ok.Cw b o e)⟩
theorem Inv.bk (I:Inv X pins φ g L s):∀b o,X.base.get? b=some o->s.heap.get? b=some o:=fun b o e=>(I.bs b o e).1
theorem Inv.kn (I:Inv X pins φ g L s) {b a o} (h:g.kn b a o):s.heap.get? a=some o:=by
 rcases h with h|⟨_,h⟩
 ·exact I.hok _ _ _ h
 ·exact I.bk _ _ (by rw [<- I.gB];exact h)
theorem Inv.mod (I:Inv X pins φ g L s):Mod X.K X.mg X.base:=I.ok.mod
theorem Inv.Cy (I:Inv X pins φ g L s):X.K.In s.heap:=I.ok.mod.Fq.keeps I.bk
theorem Inv.nolimit (I:Inv X pins φ g L s):s.heap.NoLimit:=I.ok.mod.nolimit.keeps I.bk
theorem Inv.lt (I:Inv X pins φ g L s):X.env.locals<s.heap.objs.size:=let ⟨_,hn,_⟩:=I.loc;hn.lt
theorem Inv.sz (I:Inv X pins φ g L s):X.s₀.heap.objs.size<=s.heap.objs.size:=Ra I.ok.above (UK I.lt)
theorem Inv.fresh (I:Inv X pins φ g L s):g.H s.heap.objs.size=none:=I.hok.fresh (Q3 _)
theorem Inv.Ft (I:Inv X pins φ g L s):∀x c,X.env.cells.lookup x=some c->c≠X.env.locals:=fun x c e z=>by
 obtain⟨v,o,ho,hd⟩:=I.cell x c e;obtain⟨m,⟨o',es,ep,ho',hd',_⟩,_⟩:=I.loc;rw [z,ho'] at ho;cases ho;rw [hd'] at hd;cases hd
theorem Inv.step {g1:Array GenState} {t':Nat} {d':Drawn} {ch:List Rm} (I:Inv X pins φ g L s) (l:Le g g')
  (yX:∀b∈ch,(b∈X.ex\/X.s₀.heap.objs.size<=b)/\b≠X.env.locals/\(∀x c,X.env.cells.lookup x=some c->c≠b)/\∀p∈pins,p.1≠b)
  (keep:∀b o,b≠X.env.locals->b∉ch->s.heap.get? b=some o->g.H b=none->h'.get? b=some o) (free:∀b o,b∉ch->s.heap.get? b=some o->g.H b=none->g'.H b=none)
  (ns:∀m,s.heap.Ns X.env.locals m->h'.Ns X.env.locals m) (hok:yW g'.H h') (hg:AllBare g1) (rel:Rel g' L'):Inv X pins φ g' L' { s with heap:=h',gens:=g1,drawn:=d',toks:=t' }:=by
 have ND:∀b o,X.s₀.heap.get? b=some o->b≠X.env.locals:=fun b o e=>Rc (Rp (Q1 e) I.ok.above)
 have Mf:∀b o,X.s₀.heap.get? b=some o->b∉X.ex->b∉ch:=fun b o e hx hb=>by
  rcases(yX b hb).1 with z|z
  ·exact hx z
  ·exact absurd (Rp (Q1 e) z) (Sk _)
 have cellK:∀x c,X.env.cells.lookup x=some c->∀v,s.heap.IsCell c v->h'.IsCell c v:=fun x c e v ⟨o,ho,hd⟩ =>
  ⟨o,keep c o (I.Ft x c e) (fun z=>(yX c z).2.2.1 x c e rfl) ho (I.oN x c e),hd⟩
 refine⟨I.ok,I.os,hg,⟨fun b o e n hx=>?_,fun b o e n hx=>?_,fun b o e=>l.f b o (I.base.bZ b o e)⟩,?_,fun x c e=>?_,?_,fun x c e=>?_,fun p hp=>?_,hok,I.len,rel,l.B.trans I.gB,l.m.trans I.gm,l.w.trans I.gw⟩
 ·exact keep b o (ND b o e) (Mf b o e hx) (I.base.keep b o e n hx) (I.base.free b o e n hx)
 ·exact free b o (Mf b o e hx) (I.base.keep b o e n hx) (I.base.free b o e n hx)
 ·obtain⟨m,hn,hl⟩:=I.loc
  refine⟨m,ns m hn,fun i x v e1 e2 e3=>?_⟩;obtain⟨u,r,q⟩:=hl i x v e1 e2 e3;refine⟨u,r.le l,?_⟩;rcases q with q|⟨k,c,e,z⟩
  ·exact .inl q
  ·exact .inr ⟨k,c,e,cellK x c e _ z⟩
 ·obtain⟨v,z⟩:=I.cell x c e
  exact⟨v,cellK x c e v z⟩
 ·obtain⟨m,⟨o,_,_,ho,_⟩,_⟩:=I.loc
  exact free _ o (fun z=>(yX _ z).2.1 rfl) ho I.free
 ·obtain⟨v,o,ho,hd⟩:=I.cell x c e
  exact free c o (fun z=>(yX c z).2.2.1 x c e rfl) ho (I.oN x c e)
 ·obtain⟨e,n,ne,d⟩:=I.pin p hp
  have Mg:p.1∉ch:=fun z=>(yX p.1 z).2.2.2 p hp rfl
  exact⟨keep p.1 p.2 ne Mg e n,free p.1 p.2 Mg e n,ne,d⟩
theorem Inv.un {t':Nat} (I:Inv X pins φ g L s) (l:Le g g') (u:Un [] g.H g'.H s.heap h') (hok:yW g'.H h') (rel:Rel g' L'):Inv X pins φ g' L' { s with heap:=h',toks:=t' }:=by
 obtain⟨m,⟨o,es,ep,ho,r⟩,_⟩:=id I.loc;have hL:=u.keep _ o ho I.free (by simp)
 exact I.step (g1:=s.gens) (d':=s.drawn) (ch:=[]) l (fun _ z=>nomatch z) (fun b o _ _ e n=>u.keep b o e n (by simp)) (fun b o _ e n=>u.free b o e n (by simp)) (fun m' hm=>by
  obtain⟨o',es',Fu,ho',r'⟩:=hm;rw [ho] at ho';cases ho';exact⟨_,es',Fu,hL,r'⟩) hok I.bare rel
theorem Inv.call {s':QP} {ch:List Rm} (I:Inv X pins φ g L s) (l:Le g g') (ho:s'.os=s.os) (u:Un ch g.H g'.H s.heap s'.heap) (hok:yW g'.H s'.heap) (hg:AllBare s'.gens) (rel:Rel g' L')
  (yX:∀b∈ch,(b∈X.ex\/X.s₀.heap.objs.size<=b)/\b≠X.env.locals/\(∀x c,X.env.cells.lookup x=some c->c≠b)/\∀p∈pins,p.1≠b):Inv X pins φ g' L' s':=by
 obtain⟨hh,g1,d',t',o'⟩:=s';obtain rfl:o'=s.os:=ho;obtain⟨m,⟨o,es,ep,ho,r⟩,_⟩:=id I.loc;have hL:=u.keep _ o ho I.free fun z=>(yX _ z).2.1 rfl
 exact I.step (ch:=ch) l yX (fun b o _ hc e n=>u.keep b o e n hc) (fun b o hc e n=>u.free b o e n hc) (fun m' hm=>by
  obtain⟨o',es',Fu,ho',r'⟩:=hm;rw [ho] at ho';cases ho';exact⟨_,es',Fu,hL,r'⟩) hok hg rel
noncomputable def eO (X:Cx) (pins:aJ) (H:Hp) (b:Rm):Prop:=H b=none/\b≠X.env.locals/\(b∈X.ex\/X.s₀.heap.objs.size<=b)/\(∀x c,X.env.cells.lookup x=some c->c≠b)/\∀p∈pins,p.1≠b
theorem Inv.qK {b:Rm} {H':Hp} (I:Inv X pins φ g L s) (hb:s.heap.objs.size<=b) (hn:H' b=none):eO X pins H' b:=by
 refine⟨hn,RU (Rp I.lt hb),.inr (Ra I.sz hb),fun x c e z=>?_,fun p hp z=>?_⟩
 ·obtain⟨v,q⟩:=I.cell x c e
  exact absurd (Rp q.lt (by rw [z];exact hb)) (Sk _)
 ·exact absurd (Rp (Q1 (I.pin p hp).1) (by rw [z];exact hb)) (Sk _)
theorem Inv.turned {t':Nat} {ch:List Rm} (I:Inv X pins φ g L s) (k:∀b o,b∉ch->s.heap.get? b=some o->h'.get? b=some o) (hf:∀b∈ch,eO X pins g.H b):Inv X pins φ g L { s with heap:=h',toks:=t' }:=by
 refine I.step (g1:=s.gens) (d':=s.drawn) (ch:=ch) (Le.refl g) (fun b hb=>⟨(hf b hb).2.2.1,(hf b hb).2.1,(hf b hb).2.2.2⟩) (fun b o _ hc e _=>k b o hc e) (fun _ _ _ _ n=>n) (fun m hm=>?_) (fun b c u e=>?_) I.bare I.rel
 ·obtain⟨o,es,ep,ho,r⟩:=hm
  exact⟨o,es,ep,k _ o (fun z=>(hf _ z).2.1 rfl) ho,r⟩
 ·exact k b u (fun z=>by rw [(hf b z).1] at e;cases e) (I.hok b c u e)
theorem Inv.kept {t':Nat} (I:Inv X pins φ g L s) (k:∀b u,s.heap.get? b=some u->h'.get? b=some u):Inv X pins φ g L { s with heap:=h',toks:=t' }:=I.un (Le.refl g) (Un.kept k) (fun a b o e=>k a o (I.hok a b o e)) I.rel
theorem Inv.tok (I:Inv X pins φ g L s) (t:Nat):Inv X pins φ g L { s with toks:=t }:=I.kept (h':=s.heap) fun _ _ e=>e
theorem dN {α:Type}:∀{L:List α} {n:Nat} {c:α},at_ L n=some c->n<L.length
 | c::L,n,d,h=>by
  unfold at_ at h
  split at h
  ·rename_i e;simp [e]
  ·have:=dN h;simp;omega
theorem ip {α:Type} {L:List α} {n:Nat} {c d:α} (h:at_ L n=some c):at_ (d::L) n=some c:=by
 unfold at_
 rw [if_neg (Rc (dN h))];exact h
theorem cT {α:Type} {L:List α} {d:α}:at_ (d::L) L.length=some d:=if_pos rfl
noncomputable def G.lay (g:G) (a:Rm) (o:Obj):G:={ g with H:=upd g.H a (true,o) }
theorem Rel.le {g g':G} (r:Rel g L) (l:Le g g') (e:g'.α=g.α) (k:∀a o,g.H a=some (false,o)->g'.H a=g.H a):Rel g' L:=by
 refine⟨by rw [e];exact r.len,fun n c h=>?_,by rw [e];exact r.apart,fun n p h=>?_⟩
 ·obtain⟨p,h1,h2⟩:=r.cells n c h
  refine⟨p,by rw [e];exact h1,h2.up l fun q z=>?_⟩;cases z;obtain⟨⟨o,e1⟩,o2,e2⟩:=r.live n p h1;exact⟨k _ _ e1,k _ _ e2⟩
 ·rw [e] at h
  obtain⟨⟨o,e1⟩,o2,e2⟩:=r.live n p h;exact⟨⟨o,(k _ _ e1).trans e1⟩,o2,(k _ _ e2).trans e2⟩
theorem Le.lay {a:Rm} {o:Obj} (h:g.H a=none):Le g (g.lay a o):=⟨fun b u e=>by
  have z:b≠a:=fun z=>by rw [z,h] at e;cases e
  exact(au z).trans e,fun _ _ e=>e,rfl,rfl,rfl⟩
theorem Inv.laid {a:Rm} {o:Obj} {t':Nat} (I:Inv X pins φ g L s) (k:∀b u,s.heap.get? b=some u->h'.get? b=some u) (hp:s.heap.objs.size<=a) (new:h'.get? a=some o) :
  Inv X pins φ (g.lay a o) L { s with heap:=h',toks:=t' }:=by
 have hn:=I.hok.fresh hp;refine I.un (Le.lay hn) ⟨fun b u q _ _=>k b u q,fun b u q n _=>?_,(Le.lay hn).f⟩ (fun b c u e=>?_) (I.rel.le (Le.lay hn) rfl fun b u e=>?_)
 ·exact(au (Rc (Rp (Q1 q) hp))).trans n
 ·by_cases hb:b=a
  ·subst hb
   have e':some (true,o)=some (c,u):=(aj (H:=g.H)).symm.trans e;cases e';exact new
  ·exact k b u (I.hok b c u ((au hb).symm.trans e))
 ·exact au (fun z=>by rw [z,hn] at e;cases e)
noncomputable def G.new (g:G) (a:Rm) (o:Obj):G:={ g with H:=upd g.H a (false,o),α:=(a,a)::g.α }
theorem Le.new {a:Rm} {o:Obj} (h:g.H a=none):Le g (g.new a o):=⟨fun b u e=>by
  have z:b≠a:=fun z=>by rw [z,h] at e;cases e
  exact(au z).trans e,fun _ _ e=>ip e,rfl,rfl,rfl⟩
theorem Rel.new {a:Rm} {o:Obj} {c:T} (r:Rel g L) (h:g.H a=none) (hc:RT (g.new a o) (some (a,a)) c (.ref a)):Rel (g.new a o) (c::L):=by
 have ne:∀n p,at_ g.α n=some p->p.1≠a/\p.2≠a:=fun n p e=>by
  obtain⟨⟨o1,e1⟩,o2,e2⟩:=r.live n p e;exact⟨fun z=>(by rw [z,h] at e1;cases e1),fun z=>(by rw [z,h] at e2;cases e2)⟩
 refine⟨by simp [G.new,r.len],fun n d e=>?_,fun n m p q e1 e2 NF=>?_,fun n p e=>?_⟩
 ·unfold at_ at e
  split at e
  ·rename_i en
   cases e;exact⟨(a,a),by rw [en,<- r.len];exact cT,hc⟩
  ·obtain⟨p,h1,h2⟩:=r.cells n d e
   refine⟨p,ip h1,h2.up (Le.new h) fun q z=>?_⟩;cases z;exact⟨au (ne n p h1).1,au (ne n p h1).2⟩
 ·have e1':at_ ((a,a)::g.α) n=some p:=e1
  have e2':at_ ((a,a)::g.α) m=some q:=e2
  unfold at_ at e1' e2'
  split at e1'
  ·cases e1'
   split at e2'
   ·omega
   ·have z:=ne m q e2'
    exact⟨Sy z.1,Sy z.2,Sy z.1,Sy z.2⟩
  ·split at e2'
   ·cases e2'
    have z:=ne n p e1';exact⟨z.1,z.1,z.2,z.2⟩
   ·exact r.apart n m p q e1' e2' NF
 ·have e':at_ ((a,a)::g.α) n=some p:=e
  unfold at_ at e'
  split at e'
  ·cases e';exact⟨⟨o,aj⟩,o,aj⟩
  ·obtain⟨⟨o1,h1⟩,o2,h2⟩:=r.live n p e'
   exact⟨⟨o1,(au (ne n p e').1).trans h1⟩,o2,(au (ne n p e').2).trans h2⟩
theorem Inv.new {a:Rm} {o:Obj} {c:T} {t':Nat} (I:Inv X pins φ g L s) (k:∀b u,s.heap.get? b=some u->h'.get? b=some u) (hp:s.heap.objs.size<=a) (new:h'.get? a=some o) (hc:RT (g.new a o) (some (a,a)) c (.ref a)) :
  Inv X pins φ (g.new a o) (c::L) { s with heap:=h',toks:=t' }:=by
 have hn:=I.hok.fresh hp;refine I.un (Le.new hn) ⟨fun b u q _ _=>k b u q,fun b u q n _=>?_,(Le.new hn).f⟩ (fun b c u e=>?_) (I.rel.new hn hc)
 ·exact(au (Rc (Rp (Q1 q) hp))).trans n
 ·by_cases hb:b=a
  ·subst hb
   have e':some (false,o)=some (c,u):=(aj (H:=g.H)).symm.trans e;cases e';exact new
  ·exact k b u (I.hok b c u ((au hb).symm.trans e))
noncomputable def G.set (g:G) (a:Rm) (o:Obj):G:={ g with H:=upd g.H a (false,o) }
theorem Le.set {a:Rm} {o u:Obj} (h:g.H a=some (false,u)):Le g (g.set a o):=⟨fun b v e=>by
  have z:b≠a:=fun z=>by rw [z,h] at e;cases e
  exact(au z).trans e,fun _ _ e=>e,rfl,rfl,rfl⟩
theorem m6 {α:Type}:∀{L:List α} {n m:Nat} {c d:α},at_ (put L n d) m=some c->(m=n/\c=d)\/(m≠n/\at_ L m=some c)
 | x::L,n,m,c,d,h=>by
  have lp:∀(L:List α),(put L n d).length=L.length:=fun L=>by
   induction L with
   | nil=>rfl
   | cons y L ih=>unfold put;split <;> simp [ih]
  unfold put at h;split at h
  ·rename_i en
   unfold at_ at h ⊢
   split at h
   ·rename_i em;cases h;exact .inl ⟨by omega,rfl⟩
   ·rename_i em;rw [if_neg em];exact .inr ⟨by omega,h⟩
  ·rename_i en
   unfold at_ at h ⊢
   rw [lp] at h;split at h
   ·rename_i em;rw [if_pos em];exact .inr ⟨by omega,h⟩
   ·rename_i em;rw [if_neg em];exact m6 h
theorem sD {α:Type} {L:List α} {n:Nat} {d:α}:(put L n d).length=L.length:=by
 induction L with
 | nil=>rfl
 | cons y L ih=>unfold put;split <;> simp [ih]
theorem Inv.set {n:Nat} {p:Rm × Rm} {a:Rm} {o u:Obj} {c:T} {t':Nat} (I:Inv X pins φ g L s) (hp:at_ g.α n=some p) (ha:a=p.1\/a=p.2) (hH:g.H a=some (false,u)) (k:∀b v,b≠a->s.heap.get? b=some v->h'.get? b=some v) (new:h'.get? a=some o)
  (hc:RT (g.set a o) (some p) c (.ref p.1)):Inv X pins φ (g.set a o) (put L n c) { s with heap:=h',toks:=t' }:=by
 have hb:∀b,g.H b=none->b≠a:=fun b n z=>by rw [z,hH] at n;cases n
 refine I.un (Le.set hH) ⟨fun b v q z _=>k b v (hb b z) q,fun b v q z _=>(au (hb b z)).trans z,(Le.set hH).f⟩ (fun b c v e=>?_) ⟨by rw [sD];exact I.rel.len,fun m d e=>?_,I.rel.apart,fun m q e=>?_⟩
 ·by_cases hb:b=a
  ·subst hb
   have e':some (false,o)=some (c,v):=(aj (H:=g.H)).symm.trans e;cases e';exact new
  ·exact k b v hb (I.hok b c v ((au hb).symm.trans e))
 ·rcases m6 e with⟨rfl,rfl⟩|⟨hm,e⟩
  ·exact⟨p,hp,hc⟩
  ·obtain⟨q,h1,h2⟩:=I.rel.cells m d e
   refine⟨q,h1,h2.up (Le.set hH) fun q' z=>?_⟩;cases z;have ap:=I.rel.apart m n q p h1 hp hm
   rcases ha with rfl|rfl
   ·exact⟨au ap.1,au ap.2.2.1⟩
   ·exact⟨au ap.2.1,au ap.2.2.2⟩
 ·have sel:∀b v,g.H b=some (false,v)->∃v,upd g.H a (false,o) b=some (false,v):=fun b v e=>by
   by_cases hb:b=a
   ·exact⟨o,by rw [hb];exact aj⟩
   ·exact⟨v,(au hb).trans e⟩
  obtain⟨⟨o1,h1⟩,o2,h2⟩:=I.rel.live m q e;exact⟨sel _ _ h1,sel _ _ h2⟩
theorem Inv.gA {pins':aJ} (I:Inv X pins φ g L s) (h:∀p∈pins',s.heap.get? p.1=some p.2/\g.H p.1=none/\p.1≠X.env.locals/\∀v,p.2.data≠.cell v):Inv X pins' φ g L s:={ I with pin:=h }
end
end M
namespace M
open PySem PySem.Spec PyProof.Rows
abbrev F0:QN->QP->Prop:=fun _ _=>False
theorem thn {α:Type} {t:Sem α} {Q Q':α->QP->Prop} {Md:Model} {A:RH} {E:QN->QP->Prop} {s:QP} (h:QZ Md A t Q F0 s) (hQ:∀a s,Q a s->Q' a s):QZ Md A t Q' E s:=wpAny_mono h hQ fun _ _ z=>z.elim
noncomputable def EP (X:Cx) (pins:aJ) (φ:Fr) (g:G) (w:T) (L':aa) (u:QN) (s':QP):Prop:=∃g',Le g g'/\Inv X pins φ g' L' s'/\RT g' none w u
noncomputable def AP (X:Cx) (pins:aJ) (φ:Fr) (g:G) (w:List T) (L':aa) (u:List QN) (s':QP):Prop:=∃g',Le g g'/\Inv X pins φ g' L' s'/\bM g' w u
noncomputable def TP (X:Cx) (pins:aJ) (φ:Fr) (g:G) (w:Bool) (L':aa) (b:Bool) (s':QP):Prop:=∃g',Le g g'/\Inv X pins φ g' L' s'/\b=w
noncomputable def SP (X:Cx) (pins:aJ) (g:G) (o:O) (f:Flow) (s':QP):Prop:=∃g',Le g g'/\match o,f with
 | .nx φ L,.next=>Inv X pins φ g' L s'
 | .bk φ L,.brk=>Inv X pins φ g' L s'
 | .ct φ L,.cont=>Inv X pins φ g' L s'
 | .rt t L,.ret u=>(∃φ,Inv X pins φ g' L s')/\RT g' none t u
 | _,_=>False
noncomputable def PE (X:Cx) (e:Expr) (m:SE):Prop:=∀{pins:aJ} {φ:Fr} {g:G} {L:aa} {s:QP} {w:T} {L':aa},Inv X pins φ g L s->m φ L=.ok w L'->QZ (model X.prog X.w) X.A (eval e X.env) (EP X pins φ g w L') F0 s
noncomputable def PT (X:Cx) (e:Expr) (m:ST):Prop:=∀{pins:aJ} {φ:Fr} {g:G} {L:aa} {s:QP} {w:Bool} {L':aa} (whole:Sem QN),(whole=eval e X.env\/∃op es p,e=.BoolOp op es p)->Inv X pins φ g L s->m φ L=.ok w L'->QZ (model X.prog X.w) X.A (isTrue e X.env whole) (TP X pins φ g w L') F0 s
noncomputable def PA (X:Cx) (es:List Expr) (m:SA):Prop:=∀{pins:aJ} {φ:Fr} {g:G} {L:aa} {s:QP} {w:List T} {L':aa} (pos:Pos),Inv X pins φ g L s->m φ L=.ok w L'->QZ (model X.prog X.w) X.A (spliced (backTo pos (starEach es X.env))) (AP X pins φ g w L') F0 s
noncomputable def PS (X:Cx) (st:Stmt) (m:SS):Prop:=∀{pins:aJ} {φ:Fr} {g:G} {L:aa} {s:QP},Inv X pins φ g L s->m φ L≠.bad->QZ (model X.prog X.w) X.A (exec st X.env) (SP X pins g (m φ L)) F0 s
noncomputable def vD (X:Cx) (st:List Stmt) (m:SS):Prop:=∀{pins:aJ} {φ:Fr} {g:G} {L:aa} {s:QP},Inv X pins φ g L s->m φ L≠.bad->QZ (model X.prog X.w) X.A (execs st X.env) (SP X pins g (m φ L)) F0 s
noncomputable def vE (X:Cx) (f:QN->QN->Sem QN) (m:T->T->aa->R T):Prop:=∀{pins:aJ} {φ:Fr} {g:G} {L:aa} {s:QP} {x y w:T} {L':aa} {u v:QN},Inv X pins φ g L s->RT g none x u->RT g none y v->m x y L=.ok w L'->QZ (model X.prog X.w) X.A (f u v) (EP X pins φ g w L') F0 s
noncomputable def cR (X:Cx) (f:QN) (m:Fn):Prop:=∀{pins:aJ} {φ:Fr} {g:G} {L:aa} {s:QP} {xs:List T} {w:T} {L':aa} {us:List QN},Inv X pins φ g L s->bM g xs us->m xs L=.ok w L'->QZ (model X.prog X.w) X.A (call f us) (EP X pins φ g w L') F0 s
section
variable {X:Cx} {pins:aJ} {φ:Fr} {g g1:G} {L L':aa} {s s':QP} {w:T} {u:QN} {e a b:Expr} {es:List Expr} {m ma mb:SE} {pos:Pos} {x:Str}
theorem EP.le (h:EP X pins φ g1 w L' u s') (l:Le g g1):EP X pins φ g w L' u s':=let ⟨g',k,r⟩:=h;⟨g',l.trans k,r⟩
theorem SP.le {o:O} {f:Flow} (h:SP X pins g1 o f s') (l:Le g g1):SP X pins g o f s':=let ⟨g',k,r⟩:=h;⟨g',l.trans k,r⟩
theorem Inv.ep (I:Inv X pins φ g L s) (r:RT g none w u):EP X pins φ g w L u s:=⟨g,.refl g,I,r⟩
theorem two {f:T->T->aa->R T} (ha:PE X a ma) (hb:PE X b mb) (I:Inv X pins φ g L s) (h:b2 ma mb f φ L=.ok w L') {α:Type} {Q:α->QP->Prop} {F:QN->QN->Sem α}
  (hf:∀{g' x y L2 u v s2},Le g g'->Inv X pins φ g' L2 s2->RT g' none x u->RT g' none y v->f x y L2=.ok w L'->QZ (model X.prog X.w) X.A (F u v) Q F0 s2) :
  QZ (model X.prog X.w) X.A (eval a X.env) (fun u s₁=>QZ (model X.prog X.w) X.A (eval b X.env) (fun v s₂=>QZ (model X.prog X.w) X.A (F u v) Q F0 s₂) F0 s₁) F0 s:=by
 obtain⟨x,L1,e1,h⟩:=R.of h;obtain⟨y,L2,e2,h⟩:=R.of h;refine thn (ha I e1) fun u s1 ⟨g1,l1,I1,r1⟩=>thn (hb I1 e2) fun v s2 ⟨g2,l2,I2,r2⟩=>hf (l1.trans l2) I2 (r1.le l2) r2 h
theorem Cz {i:Nat} (hN:X.N[i]?=some x) (hv:II X.env.scope x) (hd:(x == ("__debug__":Str))=false) (hcd:(x == ("__classdict__":Str))=false):PE X (.Name x pos) (v i):=by
 intro pins φ g L s w L' I h;unfold v at h;cases e:φ[i]? with
 | none=>rw [e] at h;cases h
 | some o =>
  cases o with
  | none=>rw [e] at h;cases h
  | some t =>
   rw [e] at h;cases h;obtain⟨m,hn,hl⟩:=I.loc;obtain⟨u,r,l⟩:=hl i x _ hN e hv;have fin:=I.ep r
   rcases l with⟨hk,hm⟩|⟨hk,c,hc,hcell⟩
   ·exact wpAny_Name (wpAny_loadName_local I.ok.kind hk hn hm fin) hd
   ·rcases hk with hk|hk
    ·exact wpAny_Name (wpAny_loadName_cell I.ok.kind hk hc hcell fin) hd
    ·exact wpAny_Name (wpAny_loadName_free I.ok.kind hk hc hcell fin hcd) hd
theorem b6:PE X e no:=fun _ h=>by cases h
theorem CA {i:Int} {j:Nat}:PE X (.Constant (.int i) j pos) (c (.int i)):=fun I h=>by cases h;exact wpAny_Constant_int ((I.tok _).ep (.int i _))
theorem FQ {b:Bool} {j:Nat}:PE X (.Constant (.bool b) j pos) (c (.bl b)):=fun I h=>by cases h;exact Constant_bool (I.ep (.bl b))
theorem CB {j:Nat}:PE X (.Constant .none j pos) (c .bj):=fun I h=>by cases h;exact Constant_none (I.ep .bj)
theorem CC {x:Str} {j:Nat} (hz:x.cps.toList.length<=Q9):PE X (.Constant (.str x) j pos) (c (.str x.cps.toList)):=fun I h=>by cases h;exact Calls.Constant_str ((I.tok _).ep (.str _ _ hz))
abbrev Gl (X:Cx) (x:Str):Prop:=X.env.kindOf x=some .globalImplicit
theorem m7 {Q:QN->QP->Prop} (I:Inv X pins φ g L s) (hg:Gl X x) (hm:X.mg x=some u) (h:Q u s) (hd:(x == ("__debug__":Str))=false):QZ (model X.prog X.w) X.A (eval (.Name x pos) X.env) Q F0 s :=
 VB I.ok.kind hg (Calls.loadGlobal_global (by rw [I.ok.glob];exact I.mod.glob.keeps I.bk) hm h) hd
theorem cy {Q:QN->QP->Prop} (I:Inv X pins φ g L s) (hg:Gl X x) (hm:X.mg x=none) (hv:bootBuiltins x=some u) (h:Q u s) (hn:x≠"__name__") (hd:(x == ("__debug__":Str))=false):QZ (model X.prog X.w) X.A (eval (.Name x pos) X.env) Q F0 s:=by
 obtain⟨mb,h1,h2⟩:=I.mod.blt;exact VB I.ok.kind hg (Calls.loadGlobal_builtin (by rw [I.ok.glob];exact I.mod.glob.keeps I.bk) hm (by rw [I.ok.blt];exact h1.keeps I.bk) ((h2 x hn).trans hv) h) hd
noncomputable def Mh (X:Cx) (t:T) (u:QN):Prop:=∀g:G,g.B=X.base->g.cls=X.cls->g.w=X.w->RT g none t u
theorem CD {t:T} (hg:Gl X x) (hm:X.mg x=some u) (r:Mh X t u) (hd:(x == ("__debug__":Str))=false):PE X (.Name x pos) (c t):=fun I h=>by cases h;exact m7 I hg hm (I.ep (r _ I.gB I.gm I.gw)) hd
theorem CF {t:T} (hg:Gl X x) (hm:X.mg x=none) (hv:bootBuiltins x=some u) (r:Mh X t u) (hn:x≠"__name__") (hd:(x == ("__debug__":Str))=false):PE X (.Name x pos) (c t):=fun I h=>by cases h;exact cy I hg hm hv (I.ep (r _ I.gB I.gm I.gw)) hn hd
theorem CG {op:Operator} {f:T->T->aa->R T} (ho:vE X (binaryOp op) f) (ha:PE X a ma) (hb:PE X b mb):PE X (.BinOp a op b pos) (b2 ma mb f):=fun I h =>
 wpAny_BinOp (two ha hb I h fun l I r1 r2 h=>thn (ho I r1 r2 h) fun _ _ z=>z.le l)
theorem CH {op:CmpOp} {f:T->T->aa->R T} (ho:vE X (compareOp op) f) (ha:PE X a ma) (hb:PE X b mb) (hm:behindInMarks op b=false):PE X (.Compare a [op] [b] pos) (b2 ma mb f):=fun I h =>
 wpAny_Compare1 (two ha hb I h fun l I r1 r2 h=>thn (ho I r1 r2 h) fun _ _ z=>z.le l) hm
theorem FT {f:T->T->aa->R T} (ho:vE X (fun o i=>subscriptTail a b o i) f) (ha:PE X a ma) (hb:PE X b mb):PE X (.Subscript a b pos) (b2 ma mb f):=fun I h =>
 Subscript_ (two ha hb I h fun l I r1 r2 h=>thn (ho I r1 r2 h) fun _ _ z=>z.le l)
theorem FU {op:UnaryOp} {f:T->aa->R T} (ho:∀{pins φ g L s x w L' u},Inv X pins φ g L s->RT g none x u->f x L=.ok w L'->QZ (model X.prog X.w) X.A (unaryOp op u) (EP X pins φ g w L') F0 s) (ha:PE X a ma):PE X (.UnaryOp op a pos) (b1 ma f):=fun I h=>by
 obtain⟨x,L1,e1,h⟩:=R.of h;exact UnaryOp_ (thn (ha I e1) fun v s1 ⟨g1,l1,I1,r1⟩=>thn (ho I1 r1 h) fun _ _ z=>z.le l1)
theorem CI {x w:T} {L':aa} (h:neg x L=.ok w L'):∃i,x=.int i/\w=.int (-i)/\L'=L:=by
 cases x with
 | int i=>cases h;exact⟨i,rfl,rfl,rfl⟩
 | _=>cases h
theorem CJ {pins φ g L s x w L' u} (I:Inv X pins φ g L s) (r:RT g none x u) (h:neg x L=.ok w L'):QZ (model X.prog X.w) X.A (unaryOp .USub u) (EP X pins φ g w L') F0 s:=by
 obtain⟨i,rfl,rfl,rfl⟩:=CI h;obtain⟨_,rfl⟩:=r.iI;exact neg_int ((I.tok _).ep (.int _ _))
theorem mw {a:SE} {φ L b L'} (h:tv a φ L=.ok b L'):a φ L=.ok (.bl b) L':=by
 obtain⟨x,L1,e1,h⟩:=R.of h;cases x <;> first|cases h|skip
 exact e1
theorem m8 {α β:Type} {f:α->β} {r:R α} {b:β} {L:aa} (h:r.map f=.ok b L):∃a,r=.ok a L/\f a=b:=by
 cases r with
 | bad=>cases h
 | ok a L1=>cases h;exact⟨a,rfl,rfl⟩
theorem CK (ha:PE X a ma):PE X (.UnaryOp .Not a pos) (oJ ma):=fun I h=>by
 obtain⟨b,e,rfl⟩:=m8 h;exact UnaryOp_ (thn (ha I (mw e)) fun v s1 ⟨g1,l1,I1,r1⟩=>by obtain rfl:=r1.bI;exact not_of (wpAny_truthy_bool ⟨g1,l1,I1,.bl _⟩))
theorem vF {op:BoolOp} (h:PE X a m):PE X (.BoolOp op [a] pos) m:=fun I hw=>BoolOp_one (h I hw)
theorem CL (ha:PE X a ma) (hb:PE X (.BoolOp .And (b::es) pos) mb):PE X (.BoolOp .And (a::b::es) pos) (zd ma mb):=fun I h=>by
 obtain⟨k,L1,e,h⟩:=R.of h;refine BoolOp_and (thn (ha I (mw e)) fun v s1 ⟨g1,l1,I1,r1⟩=>?_);obtain rfl:=r1.bI;refine wpAny_truthy_bool ?_;cases k with
 | true=>exact thn (hb I1 h) fun _ _ z=>z.le l1
 | false=>cases h;exact⟨g1,l1,I1,.bl _⟩
theorem FV (ha:PE X a ma) (hb:PE X (.BoolOp .Or (b::es) pos) mb):PE X (.BoolOp .Or (a::b::es) pos) (IG ma mb):=fun I h=>by
 obtain⟨k,L1,e,h⟩:=R.of h;refine BoolOp_or (thn (ha I (mw e)) fun v s1 ⟨g1,l1,I1,r1⟩=>?_);obtain rfl:=r1.bI;refine wpAny_truthy_bool ?_;cases k with
 | false=>exact thn (hb I1 h) fun _ _ z=>z.le l1
 | true=>cases h;exact⟨g1,l1,I1,.bl _⟩
theorem sE:PT X e no:=fun _ _ _ h=>by cases h
theorem CM (h:PE X e m) (he:∀whole,isTrue e X.env whole=(do let v <- whole;standAt e.pos;holding [v] (truthy v))) (hb:∀op es p,e≠.BoolOp op es p):PT X e (tv m):=fun {_ _ _ _ _ _ _} whole hw I q=>by
 rcases hw with rfl|⟨_,_,_,z⟩
 ·exact isTrue_plain (thn (h I (mw q)) fun v s1 ⟨g1,l1,I1,r1⟩=>by obtain rfl:=r1.bI;exact wpAny_truthy_bool ⟨g1,l1,I1,rfl⟩) (he _)
 ·exact absurd z (hb _ _ _)
theorem CN {m:ST} (ha:PT X a m):PT X (.UnaryOp .Not a pos) (dK m):=fun {_ _ _ _ _ _ _} whole _ I h=>by
 obtain⟨b,e,rfl⟩:=m8 h;exact isTrue_not (thn (ha _ (.inl rfl) I e) fun _ _ ⟨g1,l1,I1,e1⟩=>⟨g1,l1,I1,by rw [e1]⟩)
theorem zq {m:ST} (ha:PT X a m):PT X (.BoolOp .And [a] pos) m:=fun {_ _ _ _ _ _ _} whole _ I h=>by
 refine isTrue_and (thn (ha _ (.inl rfl) I h) fun c s1 e=>?_);cases c with
 | true=>exact isTrue_and_nil e
 | false=>exact e
theorem CO {m:ST} (ha:PT X a m):PT X (.BoolOp .Or [a] pos) m:=fun {_ _ _ _ _ _ _} whole _ I h=>by
 refine isTrue_or (thn (ha _ (.inl rfl) I h) fun c s1 e=>?_);cases c with
 | true=>exact e
 | false=>exact isTrue_or_nil e
theorem CP {ma mb:ST} (ha:PT X a ma) (hb:PT X (.BoolOp .And (b::es) pos) mb):PT X (.BoolOp .And (a::b::es) pos) (zc ma mb):=fun {_ _ _ _ _ _ _} whole _ I h=>by
 obtain⟨k,L1,e,h⟩:=R.of h;refine isTrue_and (thn (ha _ (.inl rfl) I e) fun c s1 ⟨g1,l1,I1,e1⟩=>?_);subst e1;cases c with
 | true=>exact thn (hb whole (.inr ⟨_,_,_,rfl⟩) I1 h) fun _ _ ⟨g2,l2,r⟩=>⟨g2,l1.trans l2,r⟩
 | false=>cases h;exact⟨g1,l1,I1,rfl⟩
theorem FW {ma mb:ST} (ha:PT X a ma) (hb:PT X (.BoolOp .Or (b::es) pos) mb):PT X (.BoolOp .Or (a::b::es) pos) (IF ma mb):=fun {_ _ _ _ _ _ _} whole _ I h=>by
 obtain⟨k,L1,e,h⟩:=R.of h;refine isTrue_or (thn (ha _ (.inl rfl) I e) fun c s1 ⟨g1,l1,I1,e1⟩=>?_);subst e1;cases c with
 | false=>exact thn (hb whole (.inr ⟨_,_,_,rfl⟩) I1 h) fun _ _ ⟨g2,l2,r⟩=>⟨g2,l1.trans l2,r⟩
 | true=>cases h;exact⟨g1,l1,I1,rfl⟩
theorem CQ {op:CmpOp} {f:T->T->aa->R T} (ho:vE X (compareOp op) f) (ha:PE X a ma) (hb:PE X b mb) (hm:behindInMarks op b=false):PT X (.Compare a [op] [b] pos) (tv (b2 ma mb f)):=fun {_ _ _ _ _ _ _} whole _ I h =>
 wpAny_isTrue_Compare1 (two ha hb I (mw h) fun l I r1 r2 h=>thn (ho I r1 r2 h) fun _ _ ⟨g1,l1,I1,r1⟩=>by obtain rfl:=r1.bI;exact wpAny_truthy_bool ⟨g1,l.trans l1,I1,rfl⟩) hm
theorem sF {op mv:CmpOp} {a b d:SE} {φ L w L'} (h:uc op mv a b d φ L=.ok w L'):∃x L1 y L2 k L3,a φ L=.ok x L1/\b φ L1=.ok y L2/\cmp op x y L2=.ok (.bl k) L3/\((k=false/\w=.bl false/\L'=L3)\/(k=true/\∃z L4,d φ L3=.ok z L4/\cmp mv y z L4=.ok w L')):=by
 obtain⟨x,L1,e1,h⟩:=R.of h;obtain⟨y,L2,e2,h⟩:=R.of h;obtain⟨k,L3,e3,h⟩:=R.of h;refine⟨x,L1,y,L2,k,L3,e1,e2,by unfold cmp;rw [e3];rfl,?_⟩;cases k with
 | false=>cases h;exact .inl ⟨rfl,rfl,rfl⟩
 | true=>obtain⟨z,L4,e4,h⟩:=R.of h;exact .inr ⟨rfl,z,L4,e4,h⟩
theorem vG {op mv:CmpOp} {d:Expr} {md:SE} (ho:∀op,vE X (compareOp op) (cmp op)) (ha:PE X a ma) (hb:PE X b mb) (hd:PE X d md) (hm:lastMarks [op,mv] [b,d]=false):PE X (.Compare a [op,mv] [b,d] pos) (uc op mv ma mb md):=fun I h=>by
 obtain⟨x,L1,y,L2,k,L3,e1,e2,e3,h⟩:=sF h;refine Compare_chain (thn (ha I e1) fun v s1 ⟨g1,l1,I1,r1⟩=>chain_link (thn (hb I1 e2) fun u s2 ⟨g2,l2,I2,r2⟩=>thn (ho op I2 (r1.le l2) r2 e3) fun d s3 ⟨g3,l3,I3,r3⟩=>?_)) hm;cases r3;refine wpAny_truthy_bool ?_;have yY:=(l1.trans l2).trans l3
 rcases h with⟨rfl,rfl,rfl⟩|⟨rfl,z,L4,e4,h⟩
 ·exact ite_ff ⟨g3,yY,I3,.bl _⟩
 ·exact ite_tt (chain_last (thn (hd I3 e4) fun w' s4 ⟨g4,l4,I4,r4⟩=>thn (ho mv I4 (r2.le (l3.trans l4)) r4 h) fun _ _ z=>z.le (yY.trans l4)))
theorem vH {op mv:CmpOp} {d:Expr} {md:SE} (ho:∀op,vE X (compareOp op) (cmp op)) (ha:PE X a ma) (hb:PE X b mb) (hd:PE X d md) (hm:lastMarks [op,mv] [b,d]=false):PT X (.Compare a [op,mv] [b,d] pos) (tv (uc op mv ma mb md)):=fun {_ _ _ _ _ _ _} whole _ I h=>by
 obtain⟨x,L1,y,L2,k,L3,e1,e2,e3,h⟩:=sF (mw h);refine isTrue_chain (thn (ha I e1) fun v s1 ⟨g1,l1,I1,r1⟩=>test_link (thn (hb I1 e2) fun u s2 ⟨g2,l2,I2,r2⟩=>thn (ho op I2 (r1.le l2) r2 e3) fun d s3 ⟨g3,l3,I3,r3⟩=>?_)) hm;cases r3;refine wpAny_truthy_bool ?_;have yY:=(l1.trans l2).trans l3
 rcases h with⟨rfl,e,rfl⟩|⟨rfl,z,L4,e4,h⟩
 ·cases e;exact ite_ff ⟨g3,yY,I3,rfl⟩
 ·exact ite_tt (test_last (thn (hd I3 e4) fun w' s4 ⟨g4,l4,I4,r4⟩=>thn (ho mv I4 (r2.le (l3.trans l4)) r4 h) fun _ _ ⟨g5,l5,I5,r5⟩=>by cases r5;exact wpAny_truthy_bool ⟨g5,(yY.trans l4).trans l5,I5,rfl⟩))
theorem CS {k:Expr} {mk:ST} (hk:PT X k mk) (ha:PE X a ma) (hb:PE X b mb):PE X (.IfExp k a b pos) (FO mk ma mb):=fun I h=>by
 obtain⟨k,L1,e,h⟩:=R.of h;refine wpAny_IfExp (thn (hk _ (.inl rfl) I e) fun d s1 ⟨g1,l1,I1,e1⟩=>?_);subst e1;cases d with
 | true=>exact thn (ha I1 h) fun _ _ z=>z.le l1
 | false=>exact thn (hb I1 h) fun _ _ z=>z.le l1
noncomputable def aF:Expr->Bool
 | .Starred ..=>false
 | _=>true
theorem ai {env:Env} (h:aF e=true):starEach (e::es) env=(false,eval e env)::starEach es env:=by
 cases e <;> first|rfl|cases h
theorem m9:PA X [] (gz []):=fun {_ _ _ _ _ _ _} _ I h=>by cases h;exact Te ⟨_,.refl _,I,.nil⟩
theorem ir {ms:List SE} (ha:PE X e m) (hr:PA X es (gz ms)) (hs:aF e=true):PA X (e::es) (gz (m::ms)):=fun {_ _ _ _ _ _ _} pos I h=>by
 obtain⟨t,L1,e1,h⟩:=R.of h;obtain⟨ts,L2,e2,h⟩:=R.of h;cases h;rw [ai hs];show QZ _ _ (spliced ((false,eval e X.env)::backTo pos (starEach es X.env))) _ _ _
 exact Tu (thn (ha I e1) fun u s1 ⟨g1,l1,I1,r1⟩=>thn (hr pos I1 e2) fun us s2 ⟨g2,l2,I2,r2⟩=>⟨g2,l1.trans l2,I2,.cons (r1.le l2) r2⟩)
theorem bM.lst {us:List QN} {xs:List T} {p:Option (Rm × Rm)} {a:Rm} {n:Nat} {o:Obj} (r:bM g xs us) (l:Le g g1) (ht:qH p a a) (hk:g1.kn p.isNone a { cls:=.type "list",data:=.seq us.toArray n }) (hz:xs.length<=Q9):RT g1 p (.lst xs) (.ref a) :=
 .lst ht hk hz (by simpa using Q0 r) fun i x v e1 e2=>(qI r i x v e1 (by simpa using e2)).le l
theorem g9 {fz:Bool} {xs:List T} {us:List QN} {L2:aa} {t' n:Nat} {h':Heap} (I:Inv X pins φ g L s) (r:bM g xs us) (h:fk fz xs L=.ok w L2) (k:∀b u,s.heap.get? b=some u->h'.get? b=some u) (new:h'.get? s.heap.objs.size=some { cls:=.type "list",data:=.seq us.toArray n }) :
  EP X pins φ g w L2 (.ref s.heap.objs.size) { s with heap:=h',toks:=t' }:=by
 unfold fk a8 at h;split at h
 ·rename_i hz
  unfold mk at h;split at h
  ·cases h
   exact⟨_,Le.lay I.fresh,I.laid k (Q3 _) new,r.lst (n:=n) (o:=default) (Le.lay I.fresh) (.inl rfl) (.inl aj) hz⟩
  ·cases h
   refine⟨_,Le.new I.fresh,I.new k (Q3 _) new (r.lst (n:=n) (o:=default) (Le.new I.fresh) (.inr rfl) (.inl aj) hz),?_⟩;have:=I.rel.len
   exact .ref (p:=(s.heap.objs.size,s.heap.objs.size)) (by show at_ ((_,_)::g.α) _=_;rw [<- this];exact cT)
 ·cases h
theorem nf {fz:Bool} {xs:List T} {L2:aa} (h:fk fz xs L=.ok w L2):xs.length<=Q9:=by
 unfold fk a8 at h;split at h
 ·assumption
 ·cases h
theorem CT {ms:List SE} {fz:Bool} (h:PA X es (gz ms)):PE X (.List es pos) (lst fz ms):=fun I q=>by
 obtain⟨ts,L1,e1,q⟩:=R.of q;refine wpAny_List_spliced (thn (h pos I e1) fun us s1 ⟨g1,l1,I1,r⟩=>⟨by rw [<- Q0 r];exact nf q,?_⟩);exact(g9 (t':=s1.toks) I1 r q (fun b u e=>QK _ e) (QM _ rfl)).le l1
theorem bM.tup {us:List QN} {xs:List T} {a:Rm} {n:Nat} {o:Obj} (r:bM g xs us) (l:Le g g1) (hk:g1.kn true a o) (hc:o.cls=.type "tuple"/\o.dict=none) (hd:o.data=.seq us.toArray n) (hz:xs.length<=Q9):RT g1 none (.tup xs) (.ref a) :=
 .tup hk hc hd hz (by simpa using Q0 r) fun i x v e1 e2=>(qI r i x v e1 (by simpa using e2)).le l
theorem CU {ms:List SE} {k:Nat} (h:PA X es (gz ms)) (hz:es.length<=Q9) (hl:es.length=ms.length):PE X (.Tuple es k pos) (tup ms):=fun I q=>by
 obtain⟨ts,L1,e1,q⟩:=R.of q;cases q;have len:∀{ms:List SE} {φ L ts L1},gz ms φ L=.ok ts L1->ts.length=ms.length:=fun {ms}=>by
  induction ms with
  | nil=>intro φ L ts L1 h;cases h;rfl
  | cons m ms ih =>
   intro φ L ts L1 h;obtain⟨t,L1,e1,h⟩:=R.of h;obtain⟨ts,L2,e2,h⟩:=R.of h;cases h;simp [ih e2]
 have hz':ts.length<=Q9:=by rw [len e1,<- hl];exact hz
 refine wpAny_Tuple_spliced (thn (h pos I e1) fun us s1 ⟨g1,l1,I1,r⟩=>⟨by rw [<- Q0 r];exact hz',?_⟩);exact⟨_,l1.trans (Le.lay I1.fresh),I1.laid (t':=s1.toks) (fun b u e=>QK _ e) (Q3 _) (QM _ rfl),r.tup (Le.lay I1.fresh) (.inl aj) ⟨rfl,rfl⟩ rfl hz'⟩
end
section
variable {X:Cx} {pins:aJ} {φ:Fr} {g g1:G} {L L':aa} {s s':QP} {w:T} {u:QN} {e a b:Expr} {es:List Expr} {m ma mb:SE} {pos:Pos} {x:Str} {st:Stmt} {rest:List Stmt} {ms m1 m2:SS}
theorem vI:PS X st fh:=fun _ h=>absurd rfl h
theorem zr:vD X [] (ab []):=fun I _=>wpAny_execs_nil ⟨_,.refl _,I⟩
theorem vJ {r:List SS} (h1:PS X st ms) (h2:vD X rest (ab r)):vD X (st::rest) (ab (ms::r)):=fun {pins φ g L s} I h=>by
 have e:ab (ms::r) φ L=(ms φ L).next (ab r):=rfl
 rw [e] at h ⊢;refine wpAny_execs_cons (thn (h1 I fun z=>h (by rw [z];rfl)) fun f s1 q=>?_);cases o:ms φ L with
 | bad=>rw [o] at h;exact absurd rfl h
 | nx φ1 L1 =>
  rw [o] at q h;obtain⟨g',l,q⟩:=q;cases f <;> first|exact q.elim|skip
  exact thn (h2 q h) fun _ _ z=>z.le l
 | _ =>
  rw [o] at q;obtain⟨g',l,q⟩:=q;cases f <;> first|exact q.elim|exact⟨g',l,q⟩
theorem zu:PS X (.Pass pos) pass:=fun I _=>wpAny_Pass ⟨_,.refl _,I⟩
theorem CV:PS X (.Break pos) brk:=fun I _=>wpAny_Break ⟨_,.refl _,I⟩
theorem CW:PS X (.Continue pos) cnt:=fun I _=>wpAny_Continue ⟨_,.refl _,I⟩
theorem Inv.quiet (I:Inv X pins φ g L s):interactive X.env=false:=by simp [interactive,I.ok.kind]
theorem fR {α:Type} {r:R α} {f:α->aa->O} (h:O.of r f≠.bad):∃a L,r=.ok a L/\O.of r f=f a L/\f a L≠.bad:=by
 cases r with
 | bad=>exact absurd rfl h
 | ok a L=>exact⟨a,L,rfl,rfl,h⟩
noncomputable def jl:Expr->Bool
 | .ListComp ..=>false
 | .SetComp ..=>false
 | .DictComp ..=>false
 | _=>true
theorem jZ {t:Option Expr} {l:Nat} {env:Env} (h:jl e=true):swapsWith e t l env=pure false:=by
 cases e <;> first|rfl|cases h
theorem CX (he:PE X e m) (hs:jl e=true):PS X (.Expr e pos) (df m):=fun I h=>by
 obtain⟨t,L1,e1,e2,h⟩:=fR h;rw [show df m _ _=_ from e2];exact wpAny_Expr_any (thn (he I e1) fun v s1 ⟨g1,l1,I1,r1⟩=>⟨g1,l1,I1⟩) I.quiet (jZ hs)
theorem CY (he:PE X e m):PS X (.Return (some e) pos) (ret m):=fun I h=>by
 obtain⟨t,L1,e1,e2,h⟩:=fR h;rw [show ret m _ _=_ from e2];exact wpAny_Return_some (thn (he I e1) fun v s1 ⟨g1,l1,I1,r1⟩=>⟨g1,l1,⟨_,I1⟩,r1⟩)
theorem zw:PS X (.Return none pos) (ret (c .bj)):=fun I _=>wpAny_Return_none ⟨_,.refl _,⟨_,I⟩,.bj⟩
theorem FX {k:Expr} {mk:ST} {sa sb:List Stmt} (hk:PT X k mk) (ha:vD X sa m1) (hb:vD X sb m2):PS X (.If k sa sb pos) (iff mk m1 m2):=fun I h=>by
 obtain⟨k,L1,e1,e2,h⟩:=fR h;rw [show iff mk m1 m2 _ _=_ from e2];refine wpAny_If (thn (hk _ (.inl rfl) I e1) fun d s1 ⟨g1,l1,I1,e⟩=>?_);subst e;cases d with
 | true=>exact thn (ha I1 h) fun _ _ z=>z.le l1
 | false=>exact thn (hb I1 h) fun _ _ z=>z.le l1
theorem oO {N:List Str} (hN:N.Nodup) {i j:Nat} {x:Str} (a:N[i]?=some x) (b:N[j]?=some x):i=j:=by
 obtain⟨h1,e1⟩:=Q2.mp a;obtain⟨h2,e2⟩:=Q2.mp b;exact(List.getElem_inj hN).mp (e1.trans e2.symm)
structure qL (X:Cx) (i:Nat) (x:Str):Prop where
 nd:X.N.Nodup
 ix:X.N[i]?=some x
 loc:Loc X.env.scope x
 fn:X.fn x=true\/X.env.scope.names.lookup x=some .local
theorem j0 {Md:Model} {A:RH} {E:QN->QP->Prop} {i:Nat} {t:T} {Q:Unit->QP->Prop} (I:Inv X pins φ g L s) (S:qL X i x) (r:RT g none t u)
  (h:∀s',Inv X pins (φ.set i (some t)) g L s'->(∃a,Ss a s.heap s'.heap/\(a=X.env.locals\/X.env.cells.lookup x=some a))->Q () s'):QZ Md A (storeName X.env x u) Q E s:=by
 obtain⟨m,hn,hl⟩:=id I.loc;have Jn:(X.env.scope.kind == .class || (X.env.scope.kind == .module && X.env.locals != X.env.globals))=false:=by rw [I.ok.kind];rfl
 have Mi:i<φ.length:=by rw [I.len];exact(Q2.mp S.ix).1
 have Ft:=I.Ft;have tracked:∀{a:Rm} {h':Heap},g.H a=none->Ss a s.heap h'->yW g.H h':=fun {a h'} hf hs b c o e=>(hs.2 b fun z=>by rw [z,hf] at e;cases e).trans (I.hok b c o e)
 have FY:∀{a:Rm} {h':Heap},X.s₀.heap.objs.size<=a->Ss a s.heap h'->Un X.ex X.H₀ g.H X.s₀.heap h':=fun {a h'} ha hs =>
  ⟨fun b o e n hx=>(hs.2 b (Rc (Rp (Q1 e) ha))).trans (I.base.keep b o e n hx),I.base.free,I.base.bZ⟩
 rcases S.loc with hk|hk
 ·refine wpAny_storeName_local hk hn (fun h' hn' hs=>?_) Jn
  refine h _ { I with base:=FY I.ok.above hs,loc:=⟨_,hn',fun j y v' e1 e2 e3=>?_⟩,cell:=fun y c e=>?_,pin:=fun p hp=>?_,hok:=tracked I.free hs,len:=by simpa using I.len } ⟨_,hs,.inl rfl⟩
  ·by_cases hj:j=i
   ·subst hj
    rw [S.ix] at e1;cases e1;rw [Wy Mi] at e2;cases e2;exact⟨u,r,.inl ⟨hk,by simp⟩⟩
   ·rw [Vn (Sy hj)] at e2
    obtain⟨u',r',q⟩:=hl j y v' e1 e2 e3;refine⟨u',r',?_⟩;rcases q with⟨k,e⟩|⟨k,c,e,z⟩
    ·refine .inl ⟨k,?_⟩
     have:y≠x:=fun e=>hj (oO S.nd e1 (e ▸ S.ix))
     simp [this,e]
    ·exact .inr ⟨k,c,e,z.sameBut hs (Ft y c e)⟩
  ·obtain⟨w',z⟩:=I.cell y c e
   exact⟨w',z.sameBut hs (Ft y c e)⟩
  ·obtain⟨e,n,ne,d⟩:=I.pin p hp
   exact⟨(hs.2 p.1 ne).trans e,n,ne,d⟩
 ·have Jo:X.fn x=true:=by
   rcases S.fn with z|z
   ·exact z
   ·rw [z] at hk;cases hk
  obtain⟨c,hc⟩:=I.ok.has x (.inl hk);obtain⟨w',z⟩:=I.cell x c hc;refine wpAny_storeName_cell I.ok.kind hk hc z (fun h' hc' hs=>?_);obtain⟨oc,NH,Jp⟩:=id z;refine h { s with heap:=h' } { I with base:=FY (I.ok.NC x c Jo hc) hs,loc:=⟨m,hn.sameBut hs (Sy (Ft x c hc)),fun j y v' e1 e2 e3=>?_⟩,cell:=fun y c' e=>?_,pin:=fun p hp=>?_,hok:=tracked (I.oN x c hc) hs,len:=by simpa using I.len } ⟨c,hs,.inr hc⟩
  ·by_cases hj:j=i
   ·subst hj
    rw [S.ix] at e1;cases e1;rw [Wy Mi] at e2;cases e2;exact⟨u,r,.inr ⟨.inl hk,c,hc,hc'⟩⟩
   ·rw [Vn (Sy hj)] at e2
    obtain⟨u',r',q⟩:=hl j y v' e1 e2 e3;refine⟨u',r',?_⟩;rcases q with q|⟨k,c',e,z'⟩
    ·exact .inl q
    ·refine .inr ⟨k,c',e,z'.sameBut hs ?_⟩
     rintro rfl;exact hj (oO S.nd e1 (I.ok.inj _ _ _ e hc ▸ S.ix))
  ·by_cases Fv:c'=c
   ·subst Fv;exact⟨_,hc'⟩
   ·obtain⟨w2,z2⟩:=I.cell y c' e
    exact⟨w2,z2.sameBut hs Fv⟩
  ·obtain⟨e,n,ne,d⟩:=I.pin p hp
   refine⟨(hs.2 p.1 ?_).trans e,n,ne,d⟩;intro q;rw [q,NH] at e;have q':oc=p.2:=SF e
   exact d w' (by rw [<- q'];exact Jp)
noncomputable def PG (X:Cx) (tg:Expr) (m:Tg):Prop:=∀{pins:aJ} {φ φ':Fr} {g:G} {L:aa} {s:QP} {t:T} {u:QN},Inv X pins φ g L s->RT g none t u->m.set t φ=some φ'->QZ (model X.prog X.w) X.A (assign tg X.env u) (fun _ s'=>Inv X pins φ' g L s') F0 s
theorem jH {i:Nat} (S:qL X i x):PG X (.Name x pos) (.one i):=fun I r h=>by cases h;exact wpAny_assign_Name (j0 I S r fun s' I' _=>I')
noncomputable def FZ (X:Cx) (ts:List Expr) (is:List Nat):Prop:=∀{pins:aJ} {φ:Fr} {g:G} {L:aa} {s:QP} {xs:List T} {us:List QN},Inv X pins φ g L s->bM g xs us->xs.length=is.length ->
 QZ (model X.prog X.w) X.A (assignInOrder ((assignEach ts X.env).map (·.2)) us) (fun _ s'=>Inv X pins (sets is xs φ) g L s') F0 s
theorem zx:FZ X [] []:=fun I r _=>by cases r with|nil=>exact assignInOrder_nil I|cons _ _=>contradiction
theorem vK {i:Nat} {is:List Nat} {ts:List Expr} (S:qL X i x) (h:FZ X ts is):FZ X (.Name x pos::ts) (i::is):=fun I r hl=>by
 cases r with
 | nil=>cases hl
 | cons r1 r2 =>
  show QZ _ _ (assignInOrder (assign (.Name x pos) X.env::(assignEach ts X.env).map (·.2)) _) _ _ _;exact assignInOrder_cons (thn (jH S I r1 rfl) fun _ s1 I1=>h I1 r2 (by simpa using hl))
theorem Inv.tup {xs:List T} (I:Inv X pins φ g L s) (r:RT g none (.tup xs) u):∃a its,u=.ref a/\IsTup s.heap a its/\bM g xs its.toList/\xs.length<=Q9:=by
 cases r with
 | tup hk hc hd hz hl hi=>exact⟨_,_,rfl,⟨_,I.kn hk,hc.1,_,hd⟩,cS (by simpa using hl) fun i x v e1 e2=>hi i x v e1 (by simpa using e2),hz⟩
theorem vL {is:List Nat} {ts:List Expr} {k:Nat} (h:FZ X ts is) (hn:(assignEach ts X.env).length=is.length) (CZ:(assignEach ts X.env).findIdx? (·.1)=none):PG X (.Tuple ts k pos) (.many is):=fun {_ _ _ _ _ _ t _} I r hw=>by
 cases t <;> try cases hw
 rename_i xs;have hw':(if xs.length=is.length then some (sets is xs _) else none)=some _:=hw
 clear hw;rename_i φ φ' _ _ _ _;split at hw'
 ·rename_i hl
  cases hw';obtain⟨a,its,rfl,ht,rv,hz⟩:=I.tup r;refine assign_Tuple_tuple I.ok.hd ht (by rw [hn,<- hl,Q0 rv];simp) CZ fun h' hx=>?_
  exact h (I.kept (t':=_) fun b o e=>hx b o (Rc (Q1 e)) e) rv hl
 ·cases hw'
theorem qM {tg:Expr} {t:Tg} (he:PE X e m) (hg:PG X tg t) (hs:swapsWithSole [tg] e pos.line X.env=pure false) (hw:swappedStores [tg] e X.env=pure none) (h1:(assignEach [tg] X.env).map (·.2)=[assign tg X.env]):PS X (.Assign [tg] e pos) (asg t m):=fun {pins φ g L s} I h=>by
 obtain⟨v,L1,e1,e2,h⟩:=fR h;cases ef:t.set v φ with
 | none=>simp only [ef] at h;exact absurd rfl h
 | some φ1 =>
  have e3:asg t m φ L=.nx φ1 L1:=by
   rw [show asg t m φ L=_ from e2];simp only [ef]
  rw [e3];refine wpAny_Assign_stores (thn (he I e1) fun v s1 ⟨g1,l1,I1,r1⟩=>?_) hs hw;rw [h1];exact thn (hg I1 r1 ef) fun _ s2 q=>⟨g1,l1,q⟩
theorem C0 {op:Operator} {i:Nat} (S:qL X i x) (he:PE X e m) (ho:vE X (inplaceOp op) (ag op)):PS X (.AugAssign (.Name x pos) op e pos') (aug op i m):=fun {pins φ g L s} I h=>by
 obtain⟨t,L1,e1,e2,h⟩:=fR h;rw [show aug op i m _ _=_ from e2];obtain⟨x0,L2,q1,e3⟩:=R.of e1;obtain⟨y,L3,q2,e4⟩:=R.of e3;unfold v at q1;cases ev:φ[i]? with
 | none=>rw [ev] at q1;cases q1
 | some o =>
  cases o with
  | none=>rw [ev] at q1;cases q1
  | some t0 =>
   rw [ev] at q1;cases q1;obtain⟨mm,hn,hl⟩:=I.loc;have NI:II X.env.scope x:=by rcases S.loc with k|k;exact .inl k;exact .inr (.inl k)
   obtain⟨u,r,l⟩:=hl i x _ S.ix ev NI;refine wpAny_AugAssign_Name ?_;have go:QZ (model X.prog X.w) X.A (eval e X.env) (fun w s₂=>QZ (model X.prog X.w) X.A (inplaceOp op u w) (fun r s₃=>QZ (model X.prog X.w) X.A (storeName X.env x r) (fun _=>SP X pins g (.nx (φ.set i (some t)) L1) .next) F0 s₃) F0 s₂) F0 s:=by
    refine thn (he I q2) fun w s1 ⟨g1,l1,I1,r1⟩=>thn (ho I1 (r.le l1) r1 e4) fun z s2 ⟨g2,l2,I2,r2⟩=>?_
    exact j0 I2 S r2 fun s3 I3 _=>⟨g2,l1.trans l2,I3⟩
   rcases l with⟨hk,hm⟩|⟨hk,c,hc,hcell⟩
   ·exact wpAny_loadName_local I.ok.kind hk hn hm go
   ·rcases hk with hk|hk
    ·exact wpAny_loadName_cell I.ok.kind hk hc hcell go
    ·have hk:X.env.scope.names.lookup x=some .free:=hk
     rcases S.loc with k|k <;> (rw [k] at hk;cases hk)
theorem C1 {k:Expr} {mk:ST} {sb:List Stmt} {mb:SS} (hk:PT X k mk) (hb:vD X sb mb) (n:Nat):PS X (.While k sb [] pos) (lO mk mb n):=fun {pins φ g L s} I h=>by
 refine wpAny_While (codeAny_whileLoop (fun n' s'=>∃φ' g' L',Le g g'/\Inv X pins φ' g' L' s'/\lO mk mb n' φ' L'≠.bad/\lO mk mb n' φ' L'=lO mk mb n φ L) ?_ n ⟨φ,g,L,.refl g,I,h,rfl⟩);rintro n' s1 ⟨φ1,g1,L1,l1,I1,h1,eq⟩;rw [<- eq];cases n' with
 | zero=>exact absurd rfl h1
 | succ n' =>
  obtain⟨b,L2,e1,e2,h2⟩:=fR h1;have e2':lO mk mb (n'+1) φ1 L1=_:=e2
  rw [e2'] at eq ⊢;refine wpAny_passesOwn TG (thn (hk _ (.inl rfl) I1 e1) fun b' s2 ⟨g2,l2,I2,e⟩=>?_);subst e;cases b' with
  | false=>exact wpAny_execs_nil ⟨g2,l1.trans l2,I2⟩
  | true =>
   rw [if_pos rfl] at h2 eq ⊢;rw [if_pos rfl];have hb':mb φ1 L2≠.bad:=fun z=>by rw [z] at h2;exact absurd rfl h2
   refine wpAny_passesOwn TG (thn (hb I2 hb') fun f s3 ⟨g3,l3,q3⟩=>?_);have yY:=(l1.trans l2).trans l3
   cases eb:mb φ1 L2 with
   | bad=>exact absurd eb hb'
   | nx φ3 L3 =>
    rw [eb] at q3 h2 eq;cases f <;> first|exact q3.elim|exact⟨n',SK _,φ3,g3,L3,yY,q3,h2,rfl⟩
   | ct φ3 L3 =>
    rw [eb] at q3 h2 eq;cases f <;> first|exact q3.elim|exact⟨n',SK _,φ3,g3,L3,yY,q3,h2,rfl⟩
   | bk φ3 L3 =>
    rw [eb] at q3;cases f <;> first|exact q3.elim|exact⟨g3,yY,q3⟩
   | rt t3 L3 =>
    rw [eb] at q3;cases f <;> first|exact q3.elim|exact⟨g3,yY,q3⟩
end
section
variable {X:Cx} {pins:aJ} {φ:Fr} {g g1:G} {L L':aa} {s s':QP} {w t:T} {u:QN} {e a b:Expr} {es:List Expr} {m ma mb:SE} {pos:Pos} {x:Str} {h':Heap} {xs:List T}
theorem nh {α:Type}:∀{L:List α} {n:Nat},n<L.length->∃c,at_ L n=some c
 | c::L,n,h=>by
  unfold at_
  split
  ·exact⟨c,rfl⟩
  ·exact nh (by simp at h;omega)
theorem Inv.view (I:Inv X pins φ g L s) (r:RT g none t u):∃p,RT g p (vw L t) u:=by
 cases r with
 | ref h =>
  rename_i n p;obtain⟨c,hc⟩:=nh (L:=L) (by rw [<- I.rel.len];exact dN h);obtain⟨q,h1,h2⟩:=I.rel.cells n c hc;rw [h] at h1;cases h1;exact⟨_,by show RT g _ ((at_ L n).getD .bj) _;rw [hc];exact h2⟩
 | _=>exact⟨none,by first|exact .bj|exact .bl _|exact .int _ _|exact .str _ _ (by assumption)|exact .ty _|exact .own (by assumption)|exact .tup (by assumption) (by assumption) (by assumption) (by assumption) (by assumption) (by assumption)|exact .lst (by assumption) (by assumption) (by assumption) (by assumption) (by assumption)|exact .ah (by assumption) (by assumption) (by assumption) (by assumption) (by assumption) (by assumption) (by assumption) (by assumption) (by assumption) (by assumption) (by assumption)|exact .obj (by assumption) (by assumption) (by assumption) (by assumption) (by assumption) (by assumption) (by assumption) (by assumption) (by assumption) (by assumption) (by assumption) (by assumption)⟩
theorem Inv.lst {p:Option (Rm × Rm)} (I:Inv X pins φ g L s) (r:RT g p (.lst xs) u):∃a its n,u=.ref a/\s.heap.get? a=some { cls:=.type "list",data:=.seq its n }/\bM g xs its.toList/\xs.length<=Q9:=by
 cases r with
 | lst ht hk hz hl hi=>exact⟨_,_,_,rfl,I.kn hk,cS (by simpa using hl) fun i x v e1 e2=>hi i x v e1 (by simpa using e2),hz⟩
theorem Inv.tupP {p:Option (Rm × Rm)} (I:Inv X pins φ g L s) (r:RT g p (.tup xs) u):∃a its,u=.ref a/\IsTup s.heap a its/\bM g xs its.toList/\xs.length<=Q9:=by
 obtain⟨_,_,_,_,_,rfl,hk,hc,hd,hz,hl,hi⟩:=r.tI;exact⟨_,_,rfl,⟨_,I.kn hk,hc.1,_,hd⟩,cS (by simpa using hl) fun i x v e1 e2=>hi i x v e1 (by simpa using e2),hz⟩
theorem ae {h:Heap} {a:Rm} {its:Array QN} {n:Nat} (e:h.get? a=some { cls:=.type "list",data:=.seq its n }):h.IsList a its:=⟨_,e,rfl,n,rfl⟩
end
structure Turn (P:RY) (w:SU) (tg:Expr) (g0:G) (xs:List T) (k:aa->Prop) (fp:List Rm) (it:Rm) (tn:Nat->Heap->Prop):Prop where
 mem:it∈fp
 obj:∀i h,tn i h->∀b∈fp,∃o,h.get? b=some o/\∀v,o.data≠.cell v
 keep:∀i h h',tn i h->(∀b,b∈fp\/i=0->∀o,h.get? b=some o->h'.get? b=some o)->tn i h'
 item:∀{X:Cx},X.prog=P->X.w=w->∀{i:Nat} {pins:aJ} {φ:Fr} {g:G} {L:aa} {s:QP} {E:QN->QP->Prop} {x:T},Le g0 g->Inv X pins φ g L s->(∀b∈fp,eO X pins g.H b)->tn i s.heap->k L->xs[i]?=some x ->
  QZ (model P w) X.A (pyNext (.ref it)) (fun r s1=>∃u,r=some u/\QZ (model P w) X.A (letOwnedTupleGo tg (.ref it) u) (fun _ s2=>∃g',Le g g'/\Inv X pins φ g' L s2/\RT g' none x u/\tn (i+1) s2.heap/\∀b∈fp,g'.H b=none) E s1) E s
 done:∀{X:Cx},X.prog=P->X.w=w->∀{i:Nat} {pins:aJ} {φ:Fr} {g:G} {L:aa} {s:QP} {E:QN->QP->Prop},Le g0 g->Inv X pins φ g L s->(∀b∈fp,eO X pins g.H b)->tn i s.heap->k L->i=xs.length ->
  QZ (model P w) X.A (pyNext (.ref it)) (fun r s1=>r=none/\Inv X pins φ g L s1) E s
 self:∀(A:RH) (i:Nat) (s:QP) (Q:QN->QP->Prop) (E:QN->QP->Prop),tn i s.heap->Q (.ref it) s->QZ (model P w) A (pyIter (.ref it)) Q E s
noncomputable def Fw (X:Cx) (pins:aJ) (φ:Fr) (g:G) (tg:Expr) (xs:List T) (k:aa->Prop) (L':aa) (Jq:QN) (s2:QP):Prop :=
 ∃(it:Rm) (fp:List Rm) (tn:Nat->Heap->Prop) (g':G),Jq=.ref it/\Le g g'/\Inv X pins φ g' L' s2/\Turn X.prog X.w tg g' xs k fp it tn/\tn 0 s2.heap/\∀b∈fp,eO X pins g'.H b
noncomputable def PI (X:Cx) (tg iter:Expr) (m:SI):Prop:=∀{pins:aJ} {φ:Fr} {g:G} {L:aa} {s:QP} {xs:List T} {k:aa->Prop} {L':aa},Inv X pins φ g L s->m φ L=.ok (xs,k) L' ->
 QZ (model X.prog X.w) X.A (eval iter X.env) (fun v s1=>QZ (model X.prog X.w) X.A (pyIter v) (Fw X pins φ g tg xs k L') F0 s1) F0 s
theorem sG {Md:Model} {A:RH} {E:QN->QP->Prop} {s:QP} {tg:Expr} {it:Rm} {u:QN} {o:Obj} {n:String} {vs:Array QN} {Q:Unit->QP->Prop} (ho:s.heap.get? it=some o) (hc:o.cls=.type n) (hd:o.data=.fields vs)
    (hn:["enumerate","zip","dict_itemiterator","dict_reverseitemiterator","odict_iterator","itertools.zip_longest","itertools.pairwise"].contains n=false) (hQ:Q () s):QZ Md A (letOwnedTupleGo tg (.ref it) u) Q E s:=by
  unfold letOwnedTupleGo;cases tg <;> first
    | exact QL hQ
    | (cases u <;> first
        | exact QL hQ
        | (refine QJ (wpAny_load ho ?_)
           rw [hc,hd];show QZ Md A (if (["enumerate","zip","dict_itemiterator","dict_reverseitemiterator","odict_iterator","itertools.zip_longest","itertools.pairwise"].contains n && vs[0]? == some (rawInt _))=true then _ else _) Q E s
           rw [if_neg (by intro h;rw [hn,Bool.false_and] at h;cases h)];exact QL hQ))
section
variable {P:RY} {wd:SU} {tg:Expr} {g0:G} {xs:List T} {t:T} {L0:aa} {a it:Rm}
theorem gC {o:Obj} {h:Heap} {vs:Array QN} (e:h.get? it=some o) (d:o.data=.fields vs):∀b∈[it],∃o,h.get? b=some o/\∀v,o.data≠.cell v:=fun b hb=>by
 have z:b=it:=by simpa using hb
 subst z;exact⟨o,e,fun v z=>by rw [d] at z;cases z⟩
theorem eQ {L:aa} (h:stays t L0 L):vw L t=vw L0 t:=by
 cases t with
 | ref n=>show(at_ L n).getD _=(at_ L0 n).getD _;rw [h n rfl]
 | _=>rfl
theorem uf (r0:RT g0 none t (.ref a)) (hv:vw L0 t=.lst xs):Turn P wd tg g0 xs (stays t L0) [it] it (fun i h=>h.IsListIter it a i) where
 mem:=by simp
 obj:=fun i h st=>by obtain⟨o,e,c,d⟩:=st;exact gC e d
 keep:=fun i h h' st k=>st.at fun o e=>k it (.inl (by simp)) o e
 item:=by
  intro X hP hw i pins φ g L s E x l I hf st hk hx;subst hP hw;obtain⟨p,r⟩:=I.view (r0.le l);rw [eQ hk,hv] at r;obtain⟨a',its,n,e1,e2,rv,_⟩:=I.lst r;cases e1;obtain⟨u,hu,ru⟩:=qJ rv hx;refine wpAny_pyNext_list_item st (ae e2) (x:=u) (by simpa using hu) fun h' nj sb=>?_
  have I1:Inv X pins φ g L { s with heap:=h' }:=I.turned (t':=s.toks) (ch:=[it]) (fun b o hb e=>(sb.2 b (by simpa using hb)).trans e) hf;obtain⟨o,e,c,d⟩:=id nj;exact⟨u,rfl,sG (s:={ s with heap:=h' }) e c d (by decide) ⟨g,.refl g,I1,ru,nj,fun b hb=>(hf b hb).1⟩⟩
 done:=by
  intro X hP hw i pins φ g L s E l I hf st hk hx;subst hP hw;obtain⟨p,r⟩:=I.view (r0.le l);rw [eQ hk,hv] at r;obtain⟨a',its,n,e1,e2,rv,_⟩:=I.lst r;cases e1;have hl:=Q0 rv
  exact wpAny_pyNext_list_end I.ok.hd st (ae e2) (by have z:=hl;simp at z ⊢;omega) fun h' eb=>⟨rfl,I.turned (t':=s.toks) (ch:=[it]) (fun b o hb e=>eb b o (by simpa using hb) e) hf⟩
 self:=fun _ _ _ _ _ st h=>wpAny_pyIter_listiter st h
theorem vM (r0:RT g0 none t (.ref a)) (hv:vw L0 t=.tup xs):Turn P wd tg g0 xs (stays t L0) [it] it (fun i h=>h.IsTupleIter it a i) where
 mem:=by simp
 obj:=fun i h st=>by obtain⟨o,e,c,d⟩:=st;exact gC e d
 keep:=fun i h h' st k=>st.at fun o e=>k it (.inl (by simp)) o e
 item:=by
  intro X hP hw i pins φ g L s E x l I hf st hk hx;subst hP hw;obtain⟨p,r⟩:=I.view (r0.le l);rw [eQ hk,hv] at r;obtain⟨a',its,e1,e2,rv,_⟩:=I.tupP r;cases e1;obtain⟨u,hu,ru⟩:=qJ rv hx;refine wpAny_pyNext_tuple_item st (show s.heap.IsTuple a its from e2) (x:=u) (by simpa using hu) fun h' nj sb=>?_
  have I1:Inv X pins φ g L { s with heap:=h' }:=I.turned (t':=s.toks) (ch:=[it]) (fun b o hb e=>(sb.2 b (by simpa using hb)).trans e) hf;obtain⟨o,e,c,d⟩:=id nj;exact⟨u,rfl,sG (s:={ s with heap:=h' }) e c d (by decide) ⟨g,.refl g,I1,ru,nj,fun b hb=>(hf b hb).1⟩⟩
 done:=by
  intro X hP hw i pins φ g L s E l I hf st hk hx;subst hP hw;obtain⟨p,r⟩:=I.view (r0.le l);rw [eQ hk,hv] at r;obtain⟨a',its,e1,e2,rv,_⟩:=I.tupP r;cases e1;have hl:=Q0 rv
  exact wpAny_pyNext_tuple_end I.ok.hd st (show s.heap.IsTuple a its from e2) (by have z:=hl;simp at z ⊢;omega) fun h' eb=>⟨rfl,I.turned (t':=s.toks) (ch:=[it]) (fun b o hb e=>eb b o (by simpa using hb) e) hf⟩
 self:=fun _ _ _ _ _ st h=>wpAny_pyIter_tupleiter st h
theorem qN {lo:Int} {n:Nat}:Turn P wd tg g0 (upTo lo n) (fun _=>True) [it] it (fun i h=>IsRangeIter h it (lo+(i:Nat) * 1) ((n:Int) - (i:Nat)) 1) where
 mem:=by simp
 obj:=fun i h st=>gC st rfl
 keep:=fun i h h' st k=>k it (.inl (by simp)) _ st
 item:=by
  intro X hP hw i pins φ g L s E x l I hf st hk hx;subst hP hw;have W:=Walks.range (prog:=X.prog) (w:=X.w) I.ok.hd it lo 1 n
  have hx':i<n/\x=.int (lo+i):=by
   simp only [upTo,Rd,W5] at hx;by_cases hi:i<n
   ·simp [hi] at hx;exact⟨hi,hx.symm⟩
   ·simp [hi] at hx
  obtain⟨hi,rfl⟩:=hx';refine W.item i s _ _ hi st fun v h' tk hv nj kk=>?_
  obtain⟨t,rfl⟩:=hv;have I1:Inv X pins φ g L { s with heap:=h',toks:=tk }:=I.turned (ch:=[it]) (fun b o hb e=>kk b o (by simpa using hb) e) hf
  refine⟨_,rfl,sG (s:={ s with heap:=h',toks:=tk }) (n:="range_iterator") nj rfl rfl (by decide) ⟨g,.refl g,I1,?_,nj,fun b hb=>(hf b hb).1⟩⟩;rw [Int.mul_one];exact .int _ _
 done:=by
  intro X hP hw i pins φ g L s E l I hf st hk hx;subst hP hw;exact wpAny_pyNext_range_end I.ok.hd st (by simp [upTo] at hx;omega) fun h' eb=>⟨rfl,I.turned (t':=s.toks) (ch:=[it]) (fun b o hb e=>eb b o (by simpa using hb) e) hf⟩
 self:=fun _ _ _ _ _ st h=>wpAny_pyIter_rangeiter st h
theorem oP {z:Cs} {tk:Tok} (ty:String) (Fx:ty="str_ascii_iterator"\/ty="str_iterator"):Turn P wd tg g0 (z.map fun ch=>.str [ch]) (stays (.str z) L0) [it] it (fun i h=>h.IsStrIter it ty ⟨z.toArray⟩ tk i) where
 mem:=by simp
 obj:=fun i h st=>by obtain⟨o,e,c,d⟩:=st;exact gC e d
 keep:=fun i h h' st k=>by obtain⟨o,e,r⟩:=st;exact⟨o,k it (.inl (by simp)) o e,r⟩
 item:=by
  intro X hP hw i pins φ g L s E x l I hf st hk hx;subst hP hw;have wk:Walks X.prog X.w X.A it [it] [it] z.toArray.size (SignAt ⟨z.toArray⟩) (fun i h=>h.IsStrIter it ty ⟨z.toArray⟩ tk i):=by
   rcases Fx with e|e
   ·subst e;exact Walks.strAscii I.ok.hd it _ tk
   ·subst e;exact Walks.strWide I.ok.hd it _ tk
  have hn:["enumerate","zip","dict_itemiterator","dict_reverseitemiterator","odict_iterator","itertools.zip_longest","itertools.pairwise"].contains ty=false:=by
   rcases Fx with e|e <;> subst e <;> decide
  rw [Rd] at hx;obtain⟨c0,Mj,rfl⟩:=QY.mp hx;refine wk.item i s _ E (by simpa using (Q2.mp Mj).1) st fun v h' tk' hv nj kk=>?_
  obtain⟨c,u,hc',rfl⟩:=hv;have ec:c0=c:=by
   have:z[i]?=some c:=by simpa using hc'
   rw [Mj] at this;exact SF this
  subst ec;have I1:Inv X pins φ g L { s with heap:=h',toks:=tk' }:=I.turned (ch:=[it]) (fun b o hb e=>kk b o (by simpa using hb) e) hf
  obtain⟨o,e,ec,d⟩:=id nj;exact⟨_,rfl,sG (s:={ s with heap:=h',toks:=tk' }) e ec d hn ⟨g,.refl g,I1,.str [c0] u (by show 1<=Q9;decide),nj,fun b hb=>(hf b hb).1⟩⟩
 done:=by
  intro X hP hw i pins φ g L s E l I hf st hk hx;subst hP hw;have wk:Walks X.prog X.w X.A it [it] [it] z.toArray.size (SignAt ⟨z.toArray⟩) (fun i h=>h.IsStrIter it ty ⟨z.toArray⟩ tk i):=by
   rcases Fx with e|e
   ·subst e;exact Walks.strAscii I.ok.hd it _ tk
   ·subst e;exact Walks.strWide I.ok.hd it _ tk
  have hi:i=z.toArray.size:=by simpa using hx
  subst hi;exact wk.done s _ E st fun h' tk kk=>⟨rfl,I.turned (ch:=[it]) (fun b o hb e=>kk b o (by simpa using hb) e) hf⟩
 self:=fun A i s Q E st h=>by
  rcases Fx with e|e
  ·subst e;exact wpAny_pyIter_striter_ascii st h
  ·subst e;exact wpAny_pyIter_striter_wide st h
abbrev Em (P:RY) (wd:SU) (h:Heap) (d:Rm) (ep:Nat):Prop:=h.DictAt (PySem.strKind P wd) d [] ep
theorem vN {d:Rm} {ep:Nat} {k:aa->Prop}:Turn P wd tg g0 [] k [it] it (fun i h=>i=0/\h.IsKeyIter it d 0 ([]:List (Str × QN)).length ep/\Em P wd h d ep) where
 mem:=by simp
 obj:=fun i h st=>by obtain⟨_,⟨o,e,c,d⟩,_⟩:=st;exact gC e d
 keep:=fun i h h' st k=>by
  obtain⟨z,⟨o,e,r⟩,D⟩:=st;exact⟨z,⟨o,k it (.inl (by simp)) o e,r⟩,D.keep fun b o e=>k b (.inr z) o e⟩
 item:=by
  intro X hP hw i pins φ g L s E x l I hf st hk hx;simp at hx
 done:=by
  intro X hP hw i pins φ g L s E l I hf st hk hx;subst hP hw;exact wpAny_pyNext_dict_end I.ok.hd st.2.1 st.2.2 rfl fun h' eb=>⟨rfl,I.turned (t':=s.toks) (ch:=[it]) (fun b o hb e=>eb b o (by simpa using hb) e) hf⟩
 self:=fun _ _ _ _ _ st h=>wpAny_pyIter_keyiter st.2.1 h
theorem vO {d:Rm} {ep:Nat} {k:aa->Prop}:Turn P wd tg g0 [] k [it] it (fun i h=>i=0/\IsItemIter h it d 0 ([]:List (Str × QN)).length ep .none .none/\Em P wd h d ep) where
 mem:=by simp
 obj:=fun i h st=>gC st.2.1 rfl
 keep:=fun i h h' st k=>⟨st.1,k it (.inl (by simp)) _ st.2.1,st.2.2.keep fun b o e=>k b (.inr st.1) o e⟩
 item:=by
  intro X hP hw i pins φ g L s E x l I hf st hk hx;simp at hx
 done:=by
  intro X hP hw i pins φ g L s E l I hf st hk hx;subst hP hw;exact wpAny_pyNext_items_end I.ok.hd st.2.1 st.2.2 rfl fun h' eb=>⟨rfl,I.turned (t':=s.toks) (ch:=[it]) (fun b o hb e=>eb b o (by simpa using hb) e) hf⟩
 self:=fun _ _ _ _ _ st h=>PySem.W.kcp_self st.2.1 h
theorem Inv.ik {X:Cx} {pins:aJ} {φ:Fr} {g:G} {L:aa} {s:QP} {p:Option (Rm × Rm)} {u:QN} (I:Inv X pins φ g L s) (r:RT g p (.ah []) u):∃a o ep,u=.ref a/\s.heap.get? a=some o/\o.ExactDict/\(a == sysModules)=false/\Em X.prog X.w s.heap a ep:=by
 cases r with
 | ah ht hk hx hd hz hl hn hs hh h1 h2 =>
  rename_i a o es n;obtain rfl:es = #[]:=SN.mp hl.symm;exact⟨a,o,n,rfl,I.kn hk,hx,hs,o,#[],I.kn hk,hx,hd,fun e he=>by simp at he,.nil,UA⟩
theorem oQ (h:Heap) (a:Rm) (o:Obj) (ha:a≠h.objs.size):(h.push o).get? a=h.get? a:=by
 cases h;simp only [Heap.push,Heap.get?,UJ];rw [if_neg ha]
theorem vP:∀(xs:List T) (n i:Nat),(num n xs)[i]?=(xs[i]?).map fun x=>.tup [.int ((n+i:Nat):Int),x]
 | [],n,i=>by simp [num]
 | x::xs,n,0=>by simp [num]
 | x::xs,n,i+1=>by show(num (n+1) xs)[i]?=_;rw [vP xs (n+1) i,show n+1+i=n+(i+1) by omega];simp
theorem sH:∀(xs:List T) (n:Nat),(num n xs).length=xs.length
 | [],n=>rfl
 | x::xs,n=>by simp [num,sH xs]
theorem Inv.pair {X:Cx} {pins:aJ} {φ:Fr} {g:G} {L:aa} {s:QP} {h2:Heap} {t':Nat} {ch:List Rm} {x y:T} {u v:QN} (I:Inv X pins φ g L s) (r1:RT g none x u) (r2:RT g none y v) (hf:∀b∈ch,eO X pins g.H b) (bL:∀b∈ch,b<s.heap.objs.size)
  (ht:h2.get? s.heap.objs.size=some { cls:=.type "tuple",data:=.seq #[u,v] }) (k:∀b o,b∉ch->s.heap.get? b=some o->h2.get? b=some o) :
  ∃g',Le g g'/\Inv X pins φ g' L { s with heap:=h2,toks:=t' }/\RT g' none (.tup [x,y]) (.ref s.heap.objs.size)/\∀b∈ch,g'.H b=none:=by
 have I1:=I.laid (a:=s.heap.objs.size) (o:={ cls:=.type "tuple",data:=.seq #[u,v] }) (h':=s.heap.push { cls:=.type "tuple",data:=.seq #[u,v] }) (t':=t') (fun b u q=>QK _ q) (Q3 _) (QM _ rfl);have l:=Le.lay (o:={ cls:=.type "tuple",data:=.seq #[u,v] }) I.fresh
 have fr:∀b∈ch,(g.lay s.heap.objs.size { cls:=.type "tuple",data:=.seq #[u,v] }).H b=none:=fun b hb=>(au (Rc (bL b hb))).trans (hf b hb).1
 refine⟨_,l,Inv.turned (s:={ s with heap:=s.heap.push { cls:=.type "tuple",data:=.seq #[u,v] },toks:=t' }) (t':=t') (ch:=ch) I1 (fun b o hb q=>?_) (fun b hb=>⟨fr b hb,(hf b hb).2⟩),bM.tup (us:=[u,v]) (.cons r1 (.cons r2 .nil)) l (.inl aj) ⟨rfl,rfl⟩ rfl (by show 2<=Q9;decide),fr⟩;by_cases Bw:b=s.heap.objs.size
 ·subst Bw
  have q2:(s.heap.push { cls:=.type "tuple",data:=.seq #[u,v] }).get? s.heap.objs.size=some o:=q;rw [QM _ rfl] at q2;rw [ht,<- q2]
 ·exact k b o hb ((oQ _ _ _ Bw).symm.trans q)
theorem ug {elts:List Expr} {x1:Nat} {pos:Pos} {e:Rm} (hne:e≠it) (r0:RT g0 none t (.ref a)) (hv:vw L0 t=.lst xs):Turn P wd (.Tuple elts x1 pos) g0 (num 0 xs) (stays t L0) [e,it] e (fun i h=>(∃old,IsEnum h e it ((i:Nat):Int) old)/\h.IsListIter it a i) where
 mem:=by simp
 obj:=fun i h st b hb=>by
  obtain⟨⟨old,yZ⟩,uh⟩:=st;rcases(by simpa using hb:b=e\/b=it) with z|z
  ·subst z
   exact⟨_,yZ,fun v z=>nomatch z⟩
  ·subst z
   obtain⟨o,e,c,d⟩:=uh;exact⟨o,e,fun v z=>by rw [d] at z;cases z⟩
 keep:=fun i h h' st k=>by
  obtain⟨⟨old,yZ⟩,uh⟩:=st;exact⟨⟨old,k e (.inl (by simp)) _ yZ⟩,uh.at fun o q=>k it (.inl (by simp)) o q⟩
 item:=by
  intro X hP hw i pins φ g L s E x l I hf st hk hx;subst hP hw;obtain⟨⟨old,yZ⟩,uh⟩:=st;obtain⟨p,r⟩:=I.view (r0.le l);rw [eQ hk,hv] at r;obtain⟨a',its,n,e1,e2,rv,_⟩:=I.lst r;cases e1;rw [vP,QY] at hx;obtain⟨y,hy,rfl⟩:=hx;obtain⟨u,hu,ru⟩:=qJ rv hy;refine wpAny_pyNext_enum_item yZ uh (ae e2) (x:=u) (by simpa using hu) hne fun h1 NJ vQ NK Ml va=>?_
  refine⟨_,rfl,wpAny_letOwnedTupleGo_enum NJ fun h2 NL mx=>?_⟩
  replace mx:Ss e h1 h2:=mx
  have NM:e<s.heap.objs.size:=Q1 yZ;have Qm:it<s.heap.objs.size:=by obtain⟨o,q,_⟩:=id uh;exact Q1 q
  have NN:h2.get? s.heap.objs.size=some { cls:=.type "tuple",data:=.seq #[.int i s.toks,u] }:=(mx.2 _ (RU NM)).trans NK;obtain⟨g',l',I',r',f'⟩:=I.pair (t':=s.toks+1) (ch:=[e,it]) (.int (i:Int) s.toks) ru hf (fun b hb=>by rcases(by simpa using hb:b=e\/b=it) with z|z <;> rw [z] <;> assumption) NN fun b o hb q=>by
   have hb1:b≠e:=fun z=>hb (by simp [z])
   have C2:b≠it:=fun z=>hb (by simp [z])
   exact(mx.2 b hb1).trans (va b o hb1 C2 q)
  refine⟨g',l',I',by simpa using r',⟨⟨u,?_⟩,vQ.at fun o q=>(mx.2 it (Sy hne)).trans q⟩,f'⟩;show IsEnum h2 e it (((i+1:Nat)):Int) u
  rw [show(((i+1:Nat)):Int)=(i:Int)+1 by push_cast;rfl];exact NL
 done:=by
  intro X hP hw i pins φ g L s E l I hf st hk hx;subst hP hw;obtain⟨⟨old,yZ⟩,uh⟩:=st;obtain⟨p,r⟩:=I.view (r0.le l);rw [eQ hk,hv] at r;obtain⟨a',its,n,e1,e2,rv,_⟩:=I.lst r;cases e1;have hl:=Q0 rv
  rw [sH] at hx;exact wpAny_pyNext_enum_end I.ok.hd yZ uh (ae e2) (by have z:=hl;simp at z ⊢;omega) fun h' eb=>⟨rfl,I.turned (t':=s.toks) (ch:=[e,it]) (fun b o hb e=>eb b o (fun z=>hb (by simp [z])) e) hf⟩
 self:=fun _ _ _ _ _ st h=>by obtain⟨⟨old,yZ⟩,_⟩:=st;exact wpAny_pyIter_enum yZ h
end
section
variable {X:Cx} {tg e a b:Expr} {m ma mb:SE} {pos p NO:Pos}
theorem ak {α:Type} {c:Prop} [Decidable c] {r:R α} {a:α} {L:aa} (h:a8 c r=.ok a L):c/\r=.ok a L:=by
 unfold a8 at h;split at h
 ·exact⟨by assumption,h⟩
 ·cases h
theorem F3 {φ:Fr} {L L':aa} {t:T} (h:m φ L=.ok t L'):gz [m] φ L=.ok [t] L':=by simp [gz,R.bind,h]
theorem Jr {φ:Fr} {L L1 L':aa} {t u:T} (h:ma φ L=.ok t L1) (h2:mb φ L1=.ok u L'):gz [ma,mb] φ L=.ok [t,u] L':=by simp [gz,R.bind,h,h2]
theorem C3 {φ:Fr} {L L':aa} {xs:List T} {k:aa->Prop} (h:src m φ L=.ok (xs,k) L'):∃t,m φ L=.ok t L'/\items t L'=some xs/\k=stays t L':=by
 obtain⟨t,L1,e1,h⟩:=R.of h;cases ei:items t L1 with
 | none=>rw [ei] at h;cases h
 | some ys=>rw [ei] at h;cases h;exact⟨t,e1,ei,rfl⟩
theorem Inv.C4 {X:Cx} {pins:aJ} {φ:Fr} {g:G} {L:aa} {s:QP} {xs:List T} {k:aa->Prop} {o:Obj} {tn:Nat->Heap->Prop} (I:Inv X pins φ g L s) (T:Turn X.prog X.w tg g xs k [s.heap.objs.size] s.heap.objs.size tn) (h0:tn 0 (s.heap.push o)):Fw X pins φ g tg xs k L (.ref s.heap.objs.size) { s with heap:=s.heap.push o }:=by
 refine⟨_,_,_,g,rfl,.refl g,I.kept (t':=s.toks) fun b o e=>QK _ e,T,h0,fun b hb=>?_⟩;have z:b=s.heap.objs.size:=by simpa using hb
 subst z;exact I.qK (Q3 _) I.fresh
theorem Fw.le {X:Cx} {pins:aJ} {φ:Fr} {g g1:G} {L':aa} {xs:List T} {k:aa->Prop} {u:QN} {s':QP} (h:Fw X pins φ g1 tg xs k L' u s') (l:Le g g1):Fw X pins φ g tg xs k L' u s':=let ⟨a,b,c,d,e,f,r⟩:=h;⟨a,b,c,d,e,l.trans f,r⟩
theorem RT.sV {g:G} {p:Option (Rm × Rm)} {t:T} {L:aa} {z:Cs} {x:Str} {k:Tok} (r:RT g p t (.str x k)) (e:vw L t=.str z):t=.str z:=by
 cases t with
 | ref n=>cases r
 | _=>exact e
theorem hK (he:PE X e m):PI X tg e (src m):=fun I h=>by
 obtain⟨t,e1,ei,rfl⟩:=C3 h;refine thn (he I e1) fun v s1 ⟨g1,l1,I1,r1⟩=>?_
 obtain⟨p,r⟩:=I1.view r1;unfold items at ei;cases ev:vw _ t with
 | lst xs =>
  rw [ev] at ei r;cases ei;obtain⟨a,its,n,rfl,e2,rv,_⟩:=I1.lst r;exact wpAny_pyIter_list (ae e2) ((I1.C4 (uf r1 ev) ⟨_,QM _ rfl,rfl,rfl⟩).le l1)
 | tup xs =>
  rw [ev] at ei r;cases ei;obtain⟨a,its,rfl,e2,rv,_⟩:=I1.tupP r;exact wpAny_pyIter_tuple (show s1.heap.IsTuple a its from e2) ((I1.C4 (vM r1 ev) ⟨_,QM _ rfl,rfl,rfl⟩).le l1)
 | str z =>
  rw [ev] at ei r;cases ei;obtain⟨tk,rfl,hz⟩:=r.gP;obtain rfl:=r1.sV ev;cases ha:(⟨z.toArray⟩:Str).cps.all (·<128)
  ·exact wpAny_pyIter_wide ha ((I1.C4 (oP _ (.inr rfl)) ⟨_,QM _ rfl,rfl,rfl⟩).le l1)
  ·exact wpAny_pyIter_ascii ha ((I1.C4 (oP _ (.inl rfl)) ⟨_,QM _ rfl,rfl,rfl⟩).le l1)
 | ah ks =>
  rw [ev] at ei r;cases ks with
  | cons=>cases ei
  | nil =>
   cases ei;obtain⟨a,o,ep,rfl,_,_,hs,D⟩:=I1.ik r;exact wpAny_pyIter_dict hs D ((I1.C4 vN ⟨rfl,⟨_,QM _ rfl,rfl,rfl⟩,D.push _⟩).le l1)
 | _=>rw [ev] at ei;cases ei
theorem oR {X:Cx} {pins:aJ} {φ:Fr} {g:G} {L:aa} {s:QP} {E:QN->QP->Prop} {lo hi:Int} {t u v:Tok} {tk:Nat} (I:Inv X pins φ g L s) (h1:qG lo) (h2:qG hi) :
  QZ (model X.prog X.w) X.A (pyIter (.ref s.heap.objs.size)) (Fw X pins φ g tg (upTo lo (hi - lo).toNat) (fun _=>True) L) E { s with heap:=s.heap.push { cls:=.type "range",data:=.fields #[.int lo t,.int hi u,.int 1 v] },toks:=tk }:=by
 refine wpAny_pyIter_range (IsRange.new ..) (small_one h1.1 h1.2 h2.1 h2.2) ?_;have I1:Inv X pins φ g L { s with heap:=s.heap.push { cls:=.type "range",data:=.fields #[.int lo t,.int hi u,.int 1 v] },toks:=tk }:=I.kept fun b o e=>QK _ e
 refine I1.C4 qN ?_;have e2:(((hi - lo).toNat:Nat):Int) - ((0:Nat):Int)=Wh lo hi 1:=by rw [rangeSize_one];split <;> omega
 show IsRangeIter _ _ (lo+((0:Nat):Int) * 1) ((((hi - lo).toNat:Nat):Int) - ((0:Nat):Int)) 1;rw [show lo+((0:Nat):Int) * 1=lo by simp,e2];exact QM _ rfl
theorem vR {φ:Fr} {L L':aa} {xs:List T} {k:aa->Prop} (h:ud ma mb φ L=.ok (xs,k) L'):∃i j L1,ma φ L=.ok (.int i) L1/\mb φ L1=.ok (.int j) L'/\qG i/\qG j/\xs=upTo i (j - i).toNat/\k=fun _=>True:=by
 obtain⟨x,L1,e1,h⟩:=R.of h;obtain⟨y,L2,e2,h⟩:=R.of h;cases x with
 | int i =>
  cases y with
  | int j =>
   obtain⟨q,h⟩:=ak h;cases h;exact⟨_,_,L1,e1,e2,q.1,q.2,rfl,rfl⟩
  | _=>cases h
 | _=>cases h
theorem zy (hg:Gl X "range") (hm:X.mg "range"=none) (ha:PE X a ma) (hs:aF a=true):PI X tg (.Call (.Name "range" p) [a] [] pos) (ud (c (.int 0)) ma):=fun I h=>by
 obtain⟨i,j,L1,e1,e2,z1,z2,rfl,rfl⟩:=vR h;cases e1;refine Call_ (cy I hg hm boot_range (T9 (thn (ir ha m9 hs pos I (F3 e2)) fun us s1 ⟨g1,l1,I1,r1⟩=>?_) (ai hs) rfl) (by decide) (by decide));cases r1 with
 | cons r rr =>
  cases rr;obtain⟨_,rfl⟩:=r.iI;exact call_range_1 (wpAny_mono (oR I1 z1 z2) (fun _ _ z=>z.le l1) fun _ _ z=>z)
theorem zA (hg:Gl X "range") (hm:X.mg "range"=none) (ha:PE X a ma) (hb:PE X b mb) (hs:aF a=true) (mx:aF b=true):PI X tg (.Call (.Name "range" p) [a,b] [] pos) (ud ma mb):=fun I h=>by
 obtain⟨i,j,L1,e1,e2,z1,z2,rfl,rfl⟩:=vR h;refine Call_ (cy I hg hm boot_range (T9 (thn (ir ha (ir hb m9 mx) hs pos I (Jr e1 e2)) fun us s1 ⟨g1,l1,I1,r1⟩=>?_) (ai hs) (by rw [ai mx];rfl)) (by decide) (by decide));cases r1 with
 | cons r rr =>
  cases rr with
  | cons r' rr =>
   cases rr;obtain⟨_,rfl⟩:=r.iI;obtain⟨_,rfl⟩:=r'.iI;exact call_range_2 (wpAny_mono (oR I1 z1 z2) (fun _ _ z=>z.le l1) fun _ _ z=>z)
theorem C5 {elts:List Expr} {x1:Nat} {Js:Pos} (hg:Gl X "enumerate") (hm:X.mg "enumerate"=none) (ha:PE X a ma) (hs:aF a=true):PI X (.Tuple elts x1 Js) (.Call (.Name "enumerate" p) [a] [] pos) (zf ma):=fun I h=>by
 obtain⟨t,L1,e3,h⟩:=R.of h;refine wpAny_Call_Name_kw (cy I hg hm boot_enumerate ?_ (by decide) (by decide));refine T9 (thn (ir ha m9 hs pos I (F3 e3)) fun us s1 ⟨g1,l1,I1,r1⟩=>?_) (ai hs) rfl;cases r1 with
 | cons r rr =>
  cases rr;obtain⟨p,rv⟩:=I1.view r;cases ev:vw L1 t with
  | lst ys =>
   rw [ev] at h rv;cases h;obtain⟨a,its,n,rfl,e2,rr,_⟩:=I1.lst rv;refine call_enumerate_list (ae e2) fun h' he hit hz' hk=>wpAny_pyIter_enum he ?_
   refine⟨s1.heap.objs.size+1,[s1.heap.objs.size+1,s1.heap.objs.size],_,g1,rfl,l1,I1.kept (t':=s1.toks) hk,ug (Nat.succ_ne_self _) r ev,⟨⟨_,he⟩,hit⟩,fun b hb=>?_⟩;have hb':s1.heap.objs.size<=b:=by
    rcases(by simpa using hb:b=s1.heap.objs.size+1\/b=s1.heap.objs.size) with z|z <;> rw [z]
    ·exact SO _
    ·exact Q3 _
   exact I1.qK hb' (I1.hok.fresh hb')
  | _=>rw [ev] at h;cases h
theorem hO {fp:List Rm} {h:Heap} {b:Rm} {o:Obj} (hb:b∈fp) (e:h.get? b=some o):(b,o)∈fp.filterMap fun b=>(h.get? b).map fun o=>(b,o):=VK.mpr ⟨b,hb,by rw [e];rfl⟩
theorem Inv.pinned {X:Cx} {pins:aJ} {φ:Fr} {g:G} {L:aa} {s:QP} {fp:List Rm} (I:Inv X pins φ g L s) (hf:∀b∈fp,eO X pins g.H b) (ho:∀b∈fp,∃o,s.heap.get? b=some o/\∀v,o.data≠.cell v) :
  Inv X (pins++fp.filterMap fun b=>(s.heap.get? b).map fun o=>(b,o)) φ g L s :=
 I.gA fun p hp=>(RB.mp hp).elim (I.pin p) fun z=>by
  obtain⟨b,hb,e⟩:=VK.mp z;obtain⟨o,e',d⟩:=ho b hb;rw [e'] at e;cases e;exact⟨e',(hf b hb).1,(hf b hb).2.1,d⟩
theorem Inv.j4 {X:Cx} {pins pl:aJ} {φ:Fr} {g:G} {L:aa} {s:QP} (I:Inv X (pins++pl) φ g L s):Inv X pins φ g L s:=I.gA fun p hp=>I.pin p (Q8 _ hp)
noncomputable def hV:Expr->Bool
 | .Set ..=>false
 | _=>true
theorem sJ {env:Env} (h:hV e=true):∀x,foldedSetIterable e env x=pure x:=fun x=>by
 cases e <;> first|rfl|cases h
theorem C6 {sb:List Stmt} {mi:SI} {t:Tg} {mb:SS} (hi:PI X tg e mi) (hg:PG X tg t) (hb:vD X sb mb) (hs:hV e=true):PS X (.For tg e sb [] pos) (aT mi t mb):=fun {pins φ g L s} I h=>by
 obtain⟨⟨xs,k⟩,L1,e1,e2,h⟩:=fR h;rw [show aT mi t mb φ L=_ from e2];clear e2;refine wpAny_For (thn (hi I e1) fun v s1 h1=>thn h1 fun Jq s2 ⟨it,fp,tn,g2,e,l2,I2,T,uh,f2⟩=>?_) (sJ hs);subst e;have qO:∀{H':Hp},(∀b∈fp,H' b=none)->∀b∈fp,eO X pins H' b:=fun hn b hb=>⟨hn b hb,(f2 b hb).2⟩
 generalize ho:forL k t mb xs φ L1=o at h;refine codeAny_forLoop_any (fun n s'=>∃i φ' g' L',n=xs.length - i/\i<=xs.length/\Le g2 g'/\Inv X pins φ' g' L' s'/\tn i s'.heap/\(∀b∈fp,g'.H b=none)/\forL k t mb (xs.drop i) φ' L'=o) ?_ xs.length
  ⟨0,φ,g2,L1,rfl,Rf _,.refl g2,I2,uh,fun b hb=>(f2 b hb).1,ho⟩
 rintro n s3 ⟨i,φ3,g3,L3,rfl,hi,l3,I3,F4,Mm,eq⟩;by_cases bL:i<xs.length
 ·rw [Su bL] at eq
  unfold forL at eq;by_cases hk:k L3
  ·rw [if_pos hk] at eq
   refine wpAny_passesOwn TG (wpAny_mono (T.item rfl rfl l3 I3 (qO Mm) F4 hk (Ge9 bL)) (fun r s4 ⟨u,hr,h4⟩=>?_) fun _ _ z=>z);subst hr;refine wpAny_passesOwn TG (wpAny_mono h4 (fun _ s5 ⟨g5,l5,I5,r5,C7,Jt⟩=>?_) fun _ _ z=>z);have NP:=I5.pinned (qO Jt) (T.obj _ _ C7)
   cases ef:t.set xs[i] φ3 with
   | none=>rw [ef] at eq;exact absurd eq.symm h
   | some φ6 =>
    simp only [ef] at eq;refine wpAny_passesOwn TG (thn (hg NP r5 ef) fun _ s6 I6=>?_);have hb':mb φ6 L3≠.bad:=fun z=>by rw [z] at eq;exact absurd eq.symm h
    refine wpAny_passesOwn TG (thn (hb I6 hb') fun f s7 ⟨g7,l7,q7⟩=>?_);have Ju:=(l3.trans l5).trans l7
    have again:∀{φ7:Fr} {L7:aa},Inv X (pins++fp.filterMap fun b=>(s5.heap.get? b).map fun o=>(b,o)) φ7 g7 L7 s7->forL k t mb (xs.drop (i+1)) φ7 L7=o->∃m,m<xs.length - i/\∃j φ' g' L',m=xs.length - j/\j<=xs.length/\Le g2 g'/\Inv X pins φ' g' L' s7/\tn j s7.heap/\(∀b∈fp,g'.H b=none)/\forL k t mb (xs.drop j) φ' L'=o:=fun {φ7 L7} I7 h7=>by
     refine⟨xs.length - (i+1),by omega,i+1,φ7,g7,L7,rfl,bL,Ju,I7.j4,T.keep _ _ _ C7 fun b hb o e=>have hb:=hb.resolve_right (Nat.succ_ne_zero _);(I7.pin (b,o) (Rv _ (hO hb e))).1,fun b hb=>?_,h7⟩;obtain⟨o,e,d⟩:=T.obj _ _ C7 b hb;exact(I7.pin (b,o) (Rv _ (hO hb e))).2.1
    cases eb:mb φ6 L3 with
    | bad=>exact absurd eb hb'
    | nx φ7 L7 =>
     rw [eb] at q7 eq;cases f <;> first|exact q7.elim|exact again q7 eq
    | ct φ7 L7 =>
     rw [eb] at q7 eq;cases f <;> first|exact q7.elim|exact again q7 eq
    | bk φ7 L7 =>
     rw [eb] at q7 eq;subst eq;cases f <;> first|exact q7.elim|exact⟨g7,l2.trans Ju,q7.j4⟩
    | rt t7 L7 =>
     rw [eb] at q7 eq;subst eq;cases f <;> first|exact q7.elim|exact⟨g7,l2.trans Ju,⟨_,q7.1.choose_spec.j4⟩,q7.2⟩
  ·rw [if_neg hk] at eq;exact absurd eq.symm h
 ·have ei:i=xs.length:=by omega
  rw [Wz (by omega)] at eq;unfold forL at eq;by_cases hk:k L3
  ·rw [if_pos hk] at eq
   subst eq;refine wpAny_passesOwn TG (wpAny_mono (T.done rfl rfl l3 I3 (qO Mm) F4 hk ei) (fun r s4 ⟨hr,I4⟩=>?_) fun _ _ z=>z);subst hr;exact wpAny_execs_nil ⟨g3,l2.trans l3,I4⟩
  ·rw [if_neg hk] at eq;exact absurd eq.symm h
end
noncomputable def aK (env:Env):List (Str × NameKind)->List (Str × Rm)->List (Str × Rm)
 | [],cs=>cs
 | (n,k)::r,cs=>if (k == Sv)=true then aK env r ((n,(env.cells.lookup n).getD 0)::cs) else aK env r cs
theorem eG {env:Env}:∀(names:List (Str × NameKind)) (cs:List (Str × Rm)),(∀y∈names,y.2=.free->(env.cells.lookup y.1).isSome=true) ->
  (forIn names cs (fun x (cs:List (Str × Rm))=>(match x with|(name,kind)=>if (kind == Sv)=true then (do let a <- cellOf env name;pure (Ua ((name,a)::cs))) else pure (Ua cs):Sem (ForInStep (List (Str × Rm))))):Sem (List (Str × Rm)))=pure (aK env names cs)
 | [],cs,_=>rfl
 | (n,k)::r,cs,h=>by
  have hr:∀y∈r,y.2=.free->(env.cells.lookup y.1).isSome=true:=fun y hy=>h y (QV _ hy)
  rw [TH];by_cases hk:(k == Sv)=true
  ·have e:k=.free:=by simpa using hk
   have hs:=h (n,k) QR e;obtain⟨a,ha⟩:=R4.mp hs;simp only [hk,if_true,aK,cellOf,ha,Tp,pure_bind];exact eG r _ hr
  ·simp only [hk,aK,pure_bind,QW,if_false]
   exact eG r _ hr
theorem qP {env:Env} {scope:Scope} (h:∀y∈scope.names,y.2=.free->(env.cells.lookup y.1).isSome=true):closureFor scope env=pure (aK env scope.names []):=by
 have e:=eG (env:=env) scope.names [] h;unfold closureFor;simp only [bind_pure_comp,map_pure] at e ⊢;rw [<- e];simp
theorem iu {env:Env}:∀{names:List (Str × NameKind)} {cs:List (Str × Rm)} {y:Str} {c:Rm},(∀z∈names,z.2=.free->(env.cells.lookup z.1).isSome=true)->(∀y c,cs.lookup y=some c->env.cells.lookup y=some c) ->
  (aK env names cs).lookup y=some c->env.cells.lookup y=some c
 | [],_,_,_,_,hc,h=>hc _ _ h
 | (n,k)::r,cs,y,c,hn,hc,h=>by
  have hr:∀z∈r,z.2=.free->(env.cells.lookup z.1).isSome=true:=fun z hz=>hn z (QV _ hz)
  unfold aK at h;by_cases hk:(k == Sv)=true
  ·rw [if_pos hk] at h
   have e:k=.free:=by simpa using hk
   obtain⟨a,ha⟩:=R4.mp (hn (n,k) QR e);refine iu hr (fun z d q=>?_) h;rw [Rb] at q;cases hz:z == n with
   | true =>
    have ez:z=n:=by simpa using hz
    rw [hz] at q;simp only [ha,Tp] at q;have ha':env.cells.lookup n=some a:=ha
    rw [ez,ha'];exact q
   | false =>
    rw [hz] at q;exact hc z d q
  ·rw [if_neg hk] at h
   exact iu hr hc h
theorem iy {env:Env}:∀{names:List (Str × NameKind)} {cs:List (Str × Rm)} {y:Str},((y,Sv)∈names\/(cs.lookup y).isSome=true)->((aK env names cs).lookup y).isSome=true
 | [],_,_,h=>by
  rcases h with h|h
  ·cases h
  ·exact h
 | (n,k)::r,cs,y,h=>by
  unfold aK;have key:∀a:Rm,(cs.lookup y).isSome=true->(Wi y ((n,a)::cs)).isSome=true:=fun a q=>by
   rw [Rb];cases y == n with
   | true=>rfl
   | false=>exact q
  by_cases hk:(k == Sv)=true
  ·rw [if_pos hk]
   refine iy ?_;rcases h with h|h
   ·rcases Q5.mp h with e|h
    ·cases e
     refine .inr ?_;rw [Rb];simp
    ·exact .inl h
   ·exact .inr (key _ h)
  ·rw [if_neg hk]
   refine iy ?_;rcases h with h|h
   ·rcases Q5.mp h with e|h
    ·cases e
     exact absurd (by simp) hk
    ·exact .inl h
   ·exact .inr h
theorem iz {scope:Scope} {env:Env} {y:Str} {k':NameKind} (h:(relabel scope env).names.lookup y=some k'):∃k,scope.names.lookup y=some k/\(k'=k\/(k=.free/\k'=.cell)):=by
 have go:∀(names:List (Str × NameKind)),(names.map fun(n,k)=>if (k == Sv && env.scope.kind == .function && env.kindOf n == some .cell) then (n,Wj) else (n,k)).lookup y=some k' ->
   ∃k,names.lookup y=some k/\(k'=k\/(k=.free/\k'=.cell)):=by
  intro names;induction names with
  | nil=>intro h;simp at h
  | cons a r ih =>
   obtain⟨n,k⟩:=a;intro h;rw [Q4] at h;by_cases hc:(k == Sv && env.scope.kind == .function && env.kindOf n == some .cell)=true
   ·simp only [hc,if_true,Rb] at h
    rw [Rb];cases hy:y == n with
    | true =>
     rw [hy] at h;have hk:k=.free:=by
      simp only [QS,beq_iff_eq] at hc;exact hc.1.1
     exact⟨k,rfl,.inr ⟨hk,(SF h).symm⟩⟩
    | false =>
     rw [hy] at h;exact ih h
   ·simp only [hc,QW,if_false,Rb] at h
    rw [Rb];cases hy:y == n with
    | true =>
     rw [hy] at h;exact⟨k,rfl,.inl (SF h).symm⟩
    | false =>
     rw [hy] at h;exact ih h
 exact go scope.names h
theorem iA {scope:Scope} {env:Env} {y:Str} (h:scope.names.lookup y=some .free):(relabel scope env).names.lookup y=some .cell\/(relabel scope env).names.lookup y=some .free:=by
 have go:∀(names:List (Str × NameKind)),names.lookup y=some .free->(names.map fun(n,k)=>if (k == Sv && env.scope.kind == .function && env.kindOf n == some .cell) then (n,Wj) else (n,k)).lookup y=some .cell \/
   (names.map fun(n,k)=>if (k == Sv && env.scope.kind == .function && env.kindOf n == some .cell) then (n,Wj) else (n,k)).lookup y=some .free:=by
  intro names;induction names with
  | nil=>intro h;simp at h
  | cons a r ih =>
   obtain⟨n,k⟩:=a;intro h;rw [Q4];rw [Rb] at h;by_cases hc:(k == Sv && env.scope.kind == .function && env.kindOf n == some .cell)=true
   ·simp only [hc,if_true,Rb]
    cases hy:y == n with
    | true=>exact .inl rfl
    | false =>
     rw [hy] at h;exact ih h
   ·simp only [hc,QW,if_false,Rb]
    cases hy:y == n with
    | true =>
     rw [hy] at h;have h':k=.free:=SF h
     exact .inr (by rw [h'])
    | false =>
     rw [hy] at h;exact ih h
 exact go scope.names h
theorem nk {prog:RY} {w:SU} {A:RH} {R:Result->QP->Prop} {s:QP} {elt target iter:Expr} {ifs:List Expr} {scope:Scope} {pos:Pos} {it acc:QN} {env:Env} (I:Nat->QP->Prop)
  (turn:∀n s,I n s->QZ (model prog w) A (pyNext it) (fun r s₁=>match r with
   | none=>R (.ok .next) s₁
   | some v=>QZ (model prog w) A (letOwnedTupleGo target it v) (fun _ Mn=>QZ (model prog w) A (assign target env v) (fun _ s₂ =>
     QZ (model prog w) A (forIn ifs true fun c r=>if r=true then do let ok <- isTrue c env (eval c env);pure (Ua ok) else pure (Ua r)) (fun ok s₃ =>
      if ok=true then QZ (model prog w) A (eval elt env) (fun x s₄ =>
       QZ (model prog w) A (call (.builtin "list.append") [acc,x]) (fun _ s₅=>∃m,m<n/\I m s₅) (fun _ _=>False) s₄) (fun _ _=>False) s₃
      else ∃m,m<n/\I m s₃) (fun _ _=>False) s₂) (fun _ _=>False) Mn) (fun _ _=>False) s₁) (fun _ _=>False) s)
  (n:Nat) (h:I n s):codeAny (model prog w) A (.compLoop (.ListComp elt [⟨target,iter,ifs,0⟩] scope pos) 0 it acc env) R s:=by
 refine codeAny_loop rfl I (fun n s hI=>?_) n h;show QZ _ A ((compTurn (.ListComp elt [⟨target,iter,ifs,0⟩] scope pos) 0 it acc env).onRaise (fun x=>do noteFrame x env;theTreesLotGoes x)) _ _ s
 refine wpAny_noted ?_;rw [compTurn_list];refine QJ (wpAny_standAt (QJ (wpAny_mono (turn n s hI) (fun r s₁ h₁=>?_) fun _ _ h'=>h'.elim)));cases r with
 | none=>exact QL h₁
 | some v =>
  refine QJ (wpAny_mono h₁ (fun _ Mn NQ=>?_) fun _ _ h'=>h'.elim);refine QJ (wpAny_mono NQ (fun _ s₂ h₂=>QJ (wpAny_mono h₂ (fun ok s₃ h₃=>?_) fun _ _ h'=>h'.elim)) fun _ _ h'=>h'.elim);cases ok with
  | false=>exact QL ⟨rfl,h₃⟩
  | true =>
   exact QJ (QJ (wpAny_mono h₃ (fun x s₄ h₄=>QJ (wpAny_mono h₄ (fun _ s₅ h₅=>QL (QL ⟨rfl,h₅⟩)) fun _ _ h'=>h'.elim)) fun _ _ h'=>h'.elim))
noncomputable def cz (X:Cx) (scope:Scope) (cl:List (Str × Rm)) (N:List Str) (C:Rm) (s₀:QP) (H₀:Hp) (ex:List Rm):Cx:={ X with N:=N,s₀:=s₀,H₀:=H₀,env:=compEnvC scope cl C X.env,ex:=ex,fn:=fun _=>false }
structure j5 (X:Cx) (scope:Scope) (N:List Str) (aA:List (Option Nat)):Prop where
 kind:scope.kind=.function
 j6:∀y∈scope.names,y.2≠.cell
 locs:∀y∈scope.names,y.2=.local->scope.names.lookup y.1=some .local
 frees:∀y∈scope.names,y.2=.free->(X.env.scope.names.lookup y.1=some .cell\/X.env.scope.names.lookup y.1=some .free)
 NS:∀(i:Nat) y j,N[i]?=some y->aA[i]?=some (some j)->X.N[j]?=some y/\scope.names.lookup y=some .free
 nd:N.Nodup
 len:N.length=aA.length
section
variable {X:Cx} {pins:aJ} {φ:Fr} {g:G} {L:aa} {s:QP}
theorem Inv.weak {φ':Fr} (I:Inv X pins φ g L s) (hl:φ'.length=φ.length) (w:∀(i:Nat) t,φ'[i]?=some (some t)->φ[i]?=some (some t)):Inv X pins φ' g L s :=
 { I with loc:=let ⟨m,hn,hl'⟩:=I.loc;⟨m,hn,fun i x v e1 e2 e3=>hl' i x v e1 (w i v e2) e3⟩,len:=hl.trans I.len }
theorem Inv.F5 {a:Rm} {o:Obj} (I:Inv X pins φ g L s) (f:eO X pins g.H a) (h:s.heap.get? a=some o):Inv X pins φ (g.lay a o) L s:=by
 refine I.step (g1:=s.gens) (t':=s.toks) (d':=s.drawn) (h':=s.heap) (ch:=[a]) (Le.lay f.1) (fun b hb=>?_) (fun b u _ _ e _=>e) (fun b u hb e n=>(au (fun z=>hb (by simp [z]))).trans n) (fun _ m=>m) (fun b c u e=>?_) I.bare (I.rel.le (Le.lay f.1) rfl fun b u e=>au (fun z=>by rw [z,f.1] at e;cases e))
 ·have z:b=a:=by simpa using hb
  subst z;exact⟨f.2.2.1,f.2.1,f.2.2.2⟩
 ·by_cases hb:b=a
  ·subst hb
   have e':some (true,o)=some (c,u):=(aj (H:=g.H)).symm.trans e;cases e';exact h
  ·exact I.hok b c u ((au hb).symm.trans e)
theorem Inv.C8 {a:Rm} {o:Obj} {c:T} (I:Inv X pins φ g L s) (f:eO X pins g.H a) (h:s.heap.get? a=some o) (hc:RT (g.new a o) (some (a,a)) c (.ref a)):Inv X pins φ (g.new a o) (c::L) s:=by
 refine I.step (g1:=s.gens) (t':=s.toks) (d':=s.drawn) (h':=s.heap) (ch:=[a]) (Le.new f.1) (fun b hb=>?_) (fun b u _ _ e _=>e) (fun b u hb e n=>(au (fun z=>hb (by simp [z]))).trans n) (fun _ m=>m) (fun b c u e=>?_) I.bare (I.rel.new f.1 hc)
 ·have z:b=a:=by simpa using hb
  subst z;exact⟨f.2.2.1,f.2.1,f.2.2.2⟩
 ·by_cases hb:b=a
  ·subst hb
   have e':some (false,o)=some (c,u):=(aj (H:=g.H)).symm.trans e;cases e';exact h
  ·exact I.hok b c u ((au hb).symm.trans e)
theorem qQ {scope:Scope} {N:List Str} {aA:List (Option Nat)} {s3:QP} {h1:Heap} {ex:List Rm} {m:Str->Option QN} {tk:Nat} (ok:j5 X scope N aA) (I:Inv X pins φ g L s3)
  (hf:∀b∈ex,eO X pins g.H b) (bL:∀b∈ex,b<s3.heap.objs.size) (hn:h1.Ns s3.heap.objs.size m) (keep:∀b o,s3.heap.get? b=some o->h1.get? b=some o) :
  Inv (cz X scope (aK X.env scope.names []) N s3.heap.objs.size s3 g.H ex) [] (inner aA φ) g L { s3 with heap:=h1,toks:=tk }:=by
 have sL:∀z∈scope.names,z.2=.free->(X.env.cells.lookup z.1).isSome=true:=fun z hz vS=>by
  obtain⟨c,e⟩:=I.ok.has z.1 (ok.frees z hz vS);rw [e];rfl
 have sub:∀y c,(aK X.env scope.names []).lookup y=some c->X.env.cells.lookup y=some c:=fun y c h=>iu sL (fun _ _ q=>by simp at q) h
 refine⟨⟨I.ok.mod,ok.kind,I.ok.glob,I.ok.blt,Q3 _,fun y z c e1 e2=>I.ok.inj y z c (sub _ _ e1) (sub _ _ e2),fun y hy=>?_,fun y c Jo _=>absurd Jo (by simp [cz]),I.ok.hd,fun b hb=>⟨Rc (bL b hb),fun y c e=>(hf b hb).2.2.2.1 y c (sub _ _ e)⟩,
   I.bs,Ra I.ok.Fs I.sz,fun b o e hb=>?_⟩,
  rfl,I.bare,Un.kept keep,⟨m,hn,fun i y v e1 e2 e3=>?_⟩,fun y c e=>?_,I.fresh,fun y c e=>I.oN y c (sub _ _ e),fun p hp=>(by simp at hp),fun a b o e=>keep a o (I.hok a b o e),by show(inner aA φ).length=N.length;rw [ok.len];simp [inner],I.rel,I.gB,I.gm,I.gw⟩
 ·have hy':(relabel scope X.env).names.lookup y=some .cell\/(relabel scope X.env).names.lookup y=some .free:=hy
  have fr:scope.names.lookup y=some .free:=by
   rcases hy' with q|q
   ·obtain⟨k,e,z⟩:=iz q
    rcases z with z|⟨z,_⟩
    ·exact absurd z.symm (ok.j6 _ (RD e))
    ·rw [e,z]
   ·obtain⟨k,e,z⟩:=iz q
    rcases z with z|⟨_,z⟩
    ·rw [e,z]
    ·cases z
  exact R4.mp (iy (.inl (RD fr)))
 ·rcases(hf b hb).2.2.1 with z|z
  ·exact I.ok.Cw b o e z
  ·exact absurd (Rp (Q1 e) (Ra I.ok.Fs z)) (Sk _)
 ·have e2':(aA.map fun o=>o.bind fun i=>(φ[i]?).join)[i]?=some (some v):=e2
  rw [Rd] at e2';cases hj:aA[i]? with
  | none=>rw [hj] at e2';cases e2'
  | some oj =>
   rw [hj] at e2';cases oj with
   | none=>cases e2'
   | some j =>
    obtain⟨eN,hy⟩:=ok.NS i y j e1 hj;have hσ:φ[j]?=some (some v):=by
     cases q:φ[j]? with
     | none=>simp [q] at e2'
     | some o=>simp [q] at e2';rw [e2']
    have hk:=ok.frees (y,.free) (RD hy) rfl;obtain⟨m',_,hl⟩:=I.loc;obtain⟨u,r,q⟩:=hl j y v eN hσ (.inr hk);refine⟨u,r,.inr ⟨iA hy,?_⟩⟩;rcases q with⟨k,_⟩|⟨_,c,e,z⟩
    ·have k':X.env.scope.names.lookup y=some .local:=k
     rw [k'] at hk;rcases hk with hk|hk <;> cases hk
    ·obtain⟨c',e'⟩:=R4.mp (iy (env:=X.env) (cs:=[]) (.inl (RD hy)))
     have ec:=sub _ _ e';rw [e] at ec;cases ec;obtain⟨o,ho,hd⟩:=z;exact⟨c,e',o,keep c o ho,hd⟩
 ·obtain⟨v,o,ho,hd⟩:=I.cell y c (sub _ _ e)
  exact⟨v,o,keep c o ho,hd⟩
noncomputable def C9 (X:Cx) (ifs:List Expr) (m:ST):Prop:=∀{pins:aJ} {φ:Fr} {g:G} {L:aa} {s:QP} {w:Bool} {L':aa},Inv X pins φ g L s->m φ L=.ok w L' ->
 QZ (model X.prog X.w) X.A (forIn ifs true fun c r=>if r=true then do let ok <- isTrue c X.env (eval c X.env);pure (Ua ok) else pure (Ua r)) (TP X pins φ g w L') F0 s
theorem zB:C9 X [] yes:=fun I h=>by cases h;exact wpAny_tests_nil ⟨_,.refl _,I,rfl⟩
theorem zC {k:Expr} {m:ST} (h:PT X k m):C9 X [k] m:=fun I q=>wpAny_tests_one (h _ (.inl rfl) I q)
noncomputable def Tg.slots:Tg->List Nat
 | .one i=>[i]
 | .many is=>is
theorem i9 {ψ:Fr}:∀{is:List Nat} {ts:List T} {ψ':Fr},(∀i∈is,ψ[i]?=some none)->(ψ'.length=ψ.length/\∀(i:Nat) t,ψ[i]?=some (some t)->ψ'[i]?=some (some t))->(M.sets is ts ψ').length=ψ.length/\∀(i:Nat) t,ψ[i]?=some (some t)->(sets is ts ψ')[i]?=some (some t)
 | [],_,_,_,h=>by unfold sets;exact h
 | _::_,[],_,_,h=>by unfold sets;exact h
 | j::is,t0::ts,ψ',hi,h=>by
  unfold sets;refine i9 (fun i m=>hi i (QV _ m)) ⟨by simpa using h.1,fun i t e=>?_⟩;rw [Vn]
  ·exact h.2 i t e
  ·rintro rfl
   rw [hi j QR] at e;cases e
theorem zD {ψ ψ1:Fr} {tg:Tg} {t:T} (hi:∀i∈tg.slots,ψ[i]?=some none) (h:tg.set t ψ=some ψ1):ψ.length=ψ1.length/\∀(i:Nat) t,ψ[i]?=some (some t)->ψ1[i]?=some (some t):=by
 cases tg with
 | one j =>
  cases h;have z:=i9 (is:=[j]) (ts:=[t]) hi ⟨rfl,fun _ _ e=>e⟩
  exact⟨z.1.symm,z.2⟩
 | many is =>
  cases t with
  | tup ts =>
   have h':(if ts.length=is.length then some (sets is ts ψ) else none)=some ψ1:=h;split at h'
   ·cases h'
    have z:=i9 (ts:=ts) hi ⟨rfl,fun _ _ e=>e⟩;exact⟨z.1.symm,z.2⟩
   ·cases h'
  | _=>cases h
theorem my {tg iter elt:Expr} {ifs:List Expr} {scope:Scope} {N:List Str} {aA:List (Option Nat)} {mi:SI} {t:Tg} {mt:ST} {me:SE} {pos p:Pos} {use:Option (QN->Sem Unit)} {QQ:QN->QP->Prop} {xs:List T} {k:aa->Prop} {L1 L2:aa} {ys:List T}
  (ok:j5 X scope N aA) (Bx:∀i∈t.slots,aA[i]?=some none) (hi:PI X tg iter mi) (hg:∀cl C s₀ H₀ ex,PG (cz X scope cl N C s₀ H₀ ex) tg t)
  (ht:∀cl C s₀ H₀ ex,C9 (cz X scope cl N C s₀ H₀ ex) ifs mt) (he:∀cl C s₀ H₀ ex,PE (cz X scope cl N C s₀ H₀ ex) elt me) (hs:hV iter=true)
  (I:Inv X pins φ g L s) (h1:mi φ L=.ok (xs,k) L1) (h2:compLoop k t mt me (inner aA φ) xs [] L1=.ok ys L2)
  (fin:∀(D C:Rm) (g':G) (s':QP) (m:Str->Option QN) (us:List QN) (n:Nat),Le g g'->Inv X pins φ g' L2 s'->bM g' ys us->ys.length<=Q9->s'.heap.get? D=some { cls:=.type "list",data:=.seq us.toArray n }->eO X pins g'.H D->D≠C->s'.heap.Ns C m->eO X pins g'.H C->compPost (model X.prog X.w) X.A F0 use QQ (.ref D) C (.ok .next) s') :
  QZ (model X.prog X.w) X.A (comprehension (.ListComp elt [⟨tg,iter,ifs,0⟩] scope pos) scope X.env p (newList []) false (eval iter X.env) use) QQ F0 s:=by
 have sL:∀z∈scope.names,z.2=.free->(X.env.cells.lookup z.1).isSome=true:=fun z hz vS=>by
  obtain⟨c,e⟩:=I.ok.has z.1 (ok.frees z hz vS);rw [e];rfl
 refine wpAny_comprehension_free (cl:=aK X.env scope.names []) (use:=use) rfl (sJ hs) (qP sL) ok.kind ok.locs (thn (hi I h1) fun v s1 h1=>thn h1 fun Jq s2 ⟨it,fp,tn,g2,e,l2,I2,T,uh,f2⟩=>?_);subst e;refine wpAny_newObj_type (wpAny_newFunctionEnv ok.j6 (by intro y hy;simp at hy) (fun h₁ Dc Dd=>?_) ok.kind);dsimp only at Dc Dd ⊢;have De:∀b∈fp,b<s2.heap.objs.size:=fun b hb=>by
  obtain⟨o,e,_⟩:=T.obj 0 _ uh b hb;exact Q1 e
 generalize hD:s2.heap.objs.size=D at De ⊢;have fD:eO X pins g2.H D:=I2.qK (UL hD) (I2.hok.fresh (UL hD))
 have hsz:(s2.heap.push { cls:=.type "list",dict:=none,data:=.seq ([]:List QN).toArray }).objs.size=D+1:=by rw [<- hD];exact R1 ..
 have I3:Inv X pins φ g2 L1 { s2 with heap:=s2.heap.push { cls:=.type "list",dict:=none,data:=.seq ([]:List QN).toArray } }:=I2.kept (t':=s2.toks) fun b u e=>QK _ e
 have F4:tn 0 (s2.heap.push { cls:=.type "list",dict:=none,data:=.seq ([]:List QN).toArray }):=T.keep _ _ _ uh fun b _ o e=>QK _ e
 have Mo:(s2.heap.push { cls:=.type "list",dict:=none,data:=.seq ([]:List QN).toArray }).get? D=some { cls:=.type "list",data:=.seq ([]:List QN).toArray }:=by rw [<- hD];exact QM _ rfl
 generalize Qn:s2.heap.push { cls:=.type "list",dict:=none,data:=.seq ([]:List QN).toArray }=h3 at Dc Dd hsz I3 F4 Mo ⊢;have fx:∀b∈D::fp,eO X pins g2.H b:=fun b hb=>(Q5.mp hb).elim (fun z=>by rw [z];exact fD) (f2 b)
 have F6:∀b∈D::fp,b<h3.objs.size:=fun b hb=>by
  rw [hsz];rcases Q5.mp hb with z|z
  ·rw [z];exact SK _
  ·exact Sh (De b z)
 have keep:∀b o,h3.get? b=some o->h₁.get? b=some o:=fun b o e=>Dd.extBut b o (Rc (Q1 e)) (QK _ e)
 have I4:=qQ (s3:={ s2 with heap:=h3 }) (ex:=D::fp) (tk:=s2.toks+([]:List (Str × QN)).length) ok I3 fx F6 Dc keep;have Mp:tn 0 h₁:=T.keep _ _ _ F4 fun b _ o e=>keep b o e
 generalize y0:cz X scope (aK X.env scope.names []) N ({ s2 with heap:=h3 }:QP).heap.objs.size { s2 with heap:=h3 } g2.H (D::fp)=X' at I4;have eA:X'.A=X.A:=by rw [<- y0] <;> rfl
 have eP:X'.prog=X.prog:=by rw [<- y0] <;> rfl
 have ew:X'.w=X.w:=by rw [<- y0] <;> rfl
 have ee:X'.env=compEnvC scope (aK X.env scope.names []) h3.objs.size X.env:=by rw [<- y0] <;> rfl
 have hG':PG X' tg t:=by rw [<- y0];exact hg _ _ _ _ _
 have hT':C9 X' ifs mt:=by rw [<- y0];exact ht _ _ _ _ _
 have hE':PE X' elt me:=by rw [<- y0];exact he _ _ _ _ _
 have qO:∀{H':Hp} {b:Rm},b∈D::fp->H' b=none->eO X' [] H' b:=fun {H' b} hb hn=>by
  refine⟨hn,?_,.inl ?_,fun y c e=>?_,fun p hp=>by simp at hp⟩
  ·rw [ee];exact Rc (F6 b hb)
  ·rw [<- y0];exact hb
  ·have e':(aK X.env scope.names []).lookup y=some c:=by rw [ee] at e;exact e
   exact(fx b hb).2.2.2.1 y c (iu sL (fun _ _ q=>by simp at q) e')
 have F7:D∉fp:=fun z=>Sk _ (De D z)
 have leave:∀{ψ:Fr} {g':G} {s':QP} {us:List QN} {n:Nat},Le g2 g'->Inv X' [] ψ g' L2 s'->bM g' ys us->ys.length<=Q9->s'.heap.get? D=some { cls:=.type "list",data:=.seq us.toArray n }->g'.H D=none->compPost (model X.prog X.w) X.A F0 use QQ (.ref D) h3.objs.size (.ok .next) s':=fun {ψ g' s' us n} l J r hz hd hn=>by
  have un:Un (D::fp) g2.H g'.H h3 s'.heap:=by have z:=J.base;rw [<- y0] at z;exact z
  have zE:s'.os=s2.os:=by have z:=J.os;rw [<- y0] at z;exact z
  have Jx:=Inv.call (s:={ s2 with heap:=h3 }) (s':=s') (ch:=D::fp) I3 l zE un J.hok J.bare J.rel fun b hb=>⟨(fx b hb).2.2.1,(fx b hb).2.1,(fx b hb).2.2.2⟩
  obtain⟨m,By,_⟩:=J.loc;have hn':s'.heap.Ns h3.objs.size m:=by rw [ee] at By;exact By
  have vS:g'.H h3.objs.size=none:=by have z:=J.free;rw [ee] at z;exact z
  exact fin D _ g' s' m us n (l2.trans l) Jx r hz hd ⟨hn,fD.2⟩ (Rc (by rw [hsz];exact SK _)) hn' (I3.qK (Q3 _) vS)
 have loop:∀s₃:QP,s₃={ s2 with heap:=h₁,toks:=s2.toks+([]:List (Str × QN)).length } ->
   codeAny (model X.prog X.w) X.A (.compLoop (.ListComp elt [⟨tg,iter,ifs,0⟩] scope pos) 0 (.ref it) (.ref D) (compEnvC scope (aK X.env scope.names []) h3.objs.size X.env)) (compPost (model X.prog X.w) X.A F0 use QQ (.ref D) h3.objs.size) s₃:=by
  rintro s₃ rfl;have F8:∀{ψ:Fr} {g':G} {L':aa} {s':QP} {o:Obj},Inv X' [] ψ g' L' s'->s'.heap.get? D=some o->g'.H D=none->(∀v,o.data≠.cell v)->Inv X' [(D,o)] ψ g' L' s':=fun {ψ g' L' s' o} J e n d=>J.gA fun p hp=>by
   have z:p=(D,o):=by simpa using hp
   subst z;exact⟨e,n,(qO QR n).2.1,d⟩
  refine nk (fun n s'=>∃i acc us nn g' L',n=xs.length - i/\i<=xs.length/\Le g2 g'/\Inv X' [(D,{ cls:=.type "list",data:=.seq (us:List QN).toArray nn })] (inner aA φ) g' L' s'/\tn i s'.heap/\(∀b∈fp,g'.H b=none)/\bM g' acc us/\acc.length<=Q9 /\
   compLoop k t mt me (inner aA φ) (xs.drop i) acc L'=.ok ys L2) ?_ xs.length ⟨0,[],[],0,g2,L1,rfl,Rf _,.refl g2,F8 I4 (keep D _ Mo) fD.1 (fun v z=>nomatch z),Mp,fun b hb=>(f2 b hb).1,.nil,Rf _,h2⟩
  intro n s' hj;refine IA fun G n9=>?_
  obtain⟨i,acc,us,nn,g3,L3,en,hi,l3,J,nj,Mq,ra,hz,eq⟩:=hj;refine n9 ?_;clear n9 G;subst en;have Jv:∀{H':Hp} {o:Obj},(∀b∈fp,H' b=none)->∀b∈fp,eO X' [(D,o)] H' b:=fun {H' o} hn b hb=>by
   have z:=qO (QV _ hb) (hn b hb);refine⟨z.1,z.2.1,z.2.2.1,z.2.2.2.1,fun p hp e=>?_⟩;have zp:p=(D,o):=by simpa using hp
   subst zp;exact F7 (by rw [show D=b from e];exact hb)
  by_cases bL:i<xs.length
  ·rw [Su bL] at eq
   unfold compLoop at eq;split at eq
   ·rename_i hk
    obtain⟨hk,NT⟩:=hk;have z:=T.item eP ew (E:=F0) l3 J (Jv Mq) nj hk (Ge9 bL)
    rw [eA] at z;refine wpAny_mono z (fun r s4 ⟨u,hr,h4⟩=>?_) fun _ _ z=>z
    subst hr;refine wpAny_mono h4 (fun _ s5 ⟨g5,l5,J5,r5,C7,Jt⟩=>?_) fun _ _ z=>z
    have NU:=J5.pinned (Jv Jt) (T.obj _ _ C7);cases ef:t.set xs[i] (inner aA φ) with
    | none=>rw [ef] at eq;cases eq
    | some ψ1 =>
     simp only [ef] at eq;have wk:=zD (fun i hi=>by show(aA.map _)[i]?=_;rw [Rd,Bx i hi];rfl) ef
     have zg:=hG' NU r5 ef;rw [eP,ew,eA,ee] at zg;refine thn zg fun _ s6 J6=>?_
     obtain⟨b,L7,e7,eq⟩:=R.of eq;have zt:=hT' J6 e7
     rw [eP,ew,eA,ee] at zt;refine thn zt fun b' s7 ⟨g7,l7,J7,e⟩=>?_
     subst e;have again:∀{g8:G} {L8:aa} {s8:QP} {dq:List M.T} {us':List QN} {n':Nat},Le g7 g8->Inv X' [] ψ1 g8 L8 s8->(∀b∈fp,∀o,s5.heap.get? b=some o->s8.heap.get? b=some o/\g8.H b=none)->s8.heap.get? D=some { cls:=.type "list",data:=.seq us'.toArray n' }->g8.H D=none->bM g8 dq us'->dq.length<=Q9 ->
       compLoop k t mt me (inner aA φ) (xs.drop (i+1)) dq L8=.ok ys L2->∃m,m<xs.length - i/\∃j acc us nn g' L',m=xs.length - j/\j<=xs.length/\Le g2 g'/\Inv X' [(D,{ cls:=.type "list",data:=.seq (us:List QN).toArray nn })] (inner aA φ) g' L' s8/\tn j s8.heap/\(∀b∈fp,g'.H b=none)/\bM g' acc us/\acc.length<=Q9/\compLoop k t mt me (inner aA φ) (xs.drop j) acc L'=.ok ys L2:=fun {g8 L8 s8 dq us' n'} l8 J8 kf hd hn NV hz' NW =>
      ⟨xs.length - (i+1),by omega,i+1,dq,us',n',g8,L8,rfl,bL,((l3.trans l5).trans l7).trans l8,F8 (J8.weak wk.1 wk.2) hd hn (fun v z=>nomatch z),T.keep _ _ _ C7 fun b hb o e=>(kf b (hb.resolve_right (Nat.succ_ne_zero _)) o e).1,fun b hb=>(let ⟨o,e,_⟩:=T.obj _ _ C7 b hb;(kf b hb o e).2),NV,hz',NW⟩
     have pk:∀{g8:G} {L8:aa} {s8:QP},Inv X' ([(D,{ cls:=.type "list",data:=.seq us.toArray nn })]++fp.filterMap fun b=>(s5.heap.get? b).map fun o=>(b,o)) ψ1 g8 L8 s8->∀b∈fp,∀o,s5.heap.get? b=some o->s8.heap.get? b=some o/\g8.H b=none:=fun J8 b hb o e =>
      let z:=J8.pin (b,o) (Rv _ (hO hb e));⟨z.1,z.2.1⟩
     cases b' with
     | false =>
      obtain⟨d1,d2,_⟩:=J7.pin (D,_) (Q8 _ QR);exact again (.refl g7) (J7.gA fun p hp=>by simp at hp) (pk J7) d1 d2 (ra.le ((l5).trans l7)) hz eq
     | true =>
      obtain⟨y,L8,e8,eq⟩:=R.of eq;have ze:=hE' J7 e8
      rw [eP,ew,eA,ee] at ze;refine thn ze fun yv s8 ⟨g8,l8,J8,r8⟩=>?_
      obtain⟨d1,d2,_⟩:=J8.pin (D,_) (Q8 _ QR);have lu:=Q0 ra
      refine call_meets Vo ⟨_,d1,rfl⟩ F.entry_list_append (F.args_list_append_2 _ _) (PySem.list_append D us.toArray nn yv (by rw [So,<- lu];exact hz)) ⟨d1,?_⟩;have q:=XF d1 (fun x=>x.push yv)
      have ot:∀b,b≠D->(s8.heap.update D (RJ fun x=>x.push yv)).get? b=s8.heap.get? b:=fun b hb=>Rh s8.heap _ (Sy hb)
      have J9:Inv X' [] ψ1 g8 L8 { s8 with heap:=s8.heap.update D (RJ fun x=>x.push yv) }:=(J8.gA (pins':=[]) fun p hp=>by simp at hp).turned (t':=s8.toks) (ch:=[D]) (fun b o hb e=>(ot b (by simpa using hb)).trans e) fun b hb=>by
       have z:b=D:=by simpa using hb
       subst z;exact qO QR d2
      refine again (us':=us++[yv]) l8 J9 (fun b hb o e=>?_) (by simpa using q) d2 (Paired.snoc (ra.le ((l5.trans l7).trans l8)) r8) (by simp;show acc.length<lim;exact NT) eq;have z:=pk J8 b hb o e
      exact⟨(ot b fun e=>F7 (e ▸ hb)).trans z.1,z.2⟩
   ·cases eq
  ·have ei:i=xs.length:=by omega
   rw [Wz (by omega)] at eq;unfold compLoop at eq;split at eq
   ·rename_i hk
    cases eq;have z:=T.done eP ew (E:=F0) l3 J (Jv Mq) nj hk ei
    rw [eA] at z;refine wpAny_mono z (fun r s4 ⟨hr,J4⟩=>?_) fun _ _ z=>z
    subst hr;obtain⟨d1,d2,_⟩:=J4.pin (D,_) QR;exact leave l3 (J4.gA fun p hp=>by simp at hp) ra hz d1 d2
   ·cases eq
 exact codeAny_compStart_list (loop _ rfl) (T.self _ 0 _ _ _ Mp (loop _ rfl))
theorem oU {fz:Bool} {D:Rm} {ys:List T} {us:List QN} {n:Nat} {w:T} {L':aa} (I:Inv X pins φ g L s) (r:bM g ys us) (hz:ys.length<=Q9) (hd:s.heap.get? D=some { cls:=.type "list",data:=.seq us.toArray n }) (f:eO X pins g.H D) (h:mk fz (.lst ys) L=.ok w L'):∃g',Le g g'/\Inv X pins φ g' L' s/\RT g' none w (.ref D)/\∀b,b≠D->g'.H b=g.H b:=by
 unfold mk at h;split at h
 ·cases h
  exact⟨_,Le.lay f.1,I.F5 f hd,r.lst (o:=default) (Le.lay f.1) (.inl rfl) (.inl aj) hz,fun b hb=>au hb⟩
 ·cases h
  refine⟨_,Le.new f.1,I.C8 f hd (r.lst (o:=default) (Le.new f.1) (.inr rfl) (.inl aj) hz),?_,fun b hb=>au hb⟩;have:=I.rel.len
  exact .ref (p:=(D,D)) (by show at_ ((_,_)::g.α) _=_;rw [<- this];exact cT)
theorem sM {fz:Bool} {tg iter elt:Expr} {ifs:List Expr} {scope:Scope} {N:List Str} {aA:List (Option Nat)} {mi:SI} {t:Tg} {mt:ST} {me:SE} {pos:Pos}
  (ok:j5 X scope N aA) (Bx:∀i∈t.slots,aA[i]?=some none) (hi:PI X tg iter mi) (hg:∀cl C s₀ H₀ ex,PG (cz X scope cl N C s₀ H₀ ex) tg t)
  (ht:∀cl C s₀ H₀ ex,C9 (cz X scope cl N C s₀ H₀ ex) ifs mt) (he:∀cl C s₀ H₀ ex,PE (cz X scope cl N C s₀ H₀ ex) elt me) (hs:hV iter=true):PE X (.ListComp elt [⟨tg,iter,ifs,0⟩] scope pos) (comp fz mi aA t mt me):=fun I h=>by
 obtain⟨⟨xs,k⟩,L1,e1,h⟩:=R.of h;obtain⟨ys,L2,e2,h⟩:=R.of h;rw [eval_ListComp];refine my (use:=none) ok Bx hi hg ht he hs I e1 e2 fun D C g' s' m us n l J r hz hd fD hne hn fC=>⟨m,hn,fun h' sb=>?_⟩
 have J':=J.turned (t':=s'.toks) (h':=h') (ch:=[C]) (fun b o hb e=>(sb.2 b (by simpa using hb)).trans e) fun b hb=>by
  have z:b=C:=by simpa using hb
  subst z;exact fC
 obtain⟨g2,l2,J2,r2,_⟩:=oU J' r hz ((sb.2 D hne).trans hd) fD h;exact⟨g2,l.trans l2,J2,r2⟩
theorem zF {i:Nat} {y:Str} {py Dg:Pos} {fz:Bool} {tg iter elt:Expr} {ifs:List Expr} {scope:Scope} {N:List Str} {aA:List (Option Nat)} {mi:SI} {t:Tg} {mt:ST} {me:SE} {pos:Pos} (S:qL X i y)
  (ok:j5 X scope N aA) (Bx:∀i∈t.slots,aA[i]?=some none) (hi:PI X tg iter mi) (hg:∀cl C s₀ H₀ ex,PG (cz X scope cl N C s₀ H₀ ex) tg t)
  (ht:∀cl C s₀ H₀ ex,C9 (cz X scope cl N C s₀ H₀ ex) ifs mt) (he:∀cl C s₀ H₀ ex,PE (cz X scope cl N C s₀ H₀ ex) elt me) (hs:hV iter=true) :
  PS X (.Assign [.Name y py] (.ListComp elt [⟨tg,iter,ifs,0⟩] scope pos) Dg) (asg (.one i) (comp fz mi aA t mt me)):=fun {pins φ g L s} I h=>by
 cases hb:(X.env.blockKind == .function && X.env.kindOf y == some .local && py.line == pos.line && !(scope.names.any fun(n,k)=>n == y && (k == .local || k == .cell))) with
 | false =>
  have hsw:swapsWith (.ListComp elt [⟨tg,iter,ifs,0⟩] scope pos) (some (.Name y py)) Dg.line X.env=pure false:=by
   show(pure _:Sem Bool)=pure false;rw [<- hb];rfl
  exact qM (sM ok Bx hi hg ht he hs) (jH S) hsw rfl rfl I h
 | true =>
  have hsw:swapsWith (.ListComp elt [⟨tg,iter,ifs,0⟩] scope pos) (some (.Name y py)) Dg.line X.env=pure true:=by
   show(pure _:Sem Bool)=pure true;rw [<- hb];rfl
  obtain⟨v,L3,e0,e2,h⟩:=fR h;rw [show asg (.one i) (comp fz mi aA t mt me) φ L=.nx (φ.set i (some v)) L3 from e2];obtain⟨⟨xs,k⟩,L1,e1,e0⟩:=R.of e0;obtain⟨ys,L2,e3,e0⟩:=R.of e0;rw [exec_Assign_Name_used _ _ _ _ hsw];refine QJ (wpAny_standAt (QJ ?_));show QZ _ X.A (do let _ <- comprehension (.ListComp elt [⟨tg,iter,ifs,0⟩] scope pos) scope X.env _ (newList []) false (eval iter X.env) (some (assign (.Name y py) X.env))) _ _ s
  refine QJ (wpAny_mono (my (QQ:=fun _ s'=>SP X pins g (.nx (φ.set i (some v)) L3) .next s') (use:=some (assign (.Name y py) X.env)) ok Bx hi hg ht he hs I e1 e3 fun D C g' s' m us n l J r hz hd fD hne hn fC=>?_) (fun _ s' hq=>QL (QL hq)) fun _ _ e=>e);obtain⟨g2,l2,J2,r2,kp⟩:=oU J r hz hd fD e0;have NY:eO X pins g2.H C:=⟨(kp C (Sy hne)).trans fC.1,fC.2⟩
  refine wpAny_assign_Name (j0 J2 S r2 fun s2 I2 Bz=>?_);obtain⟨a,sb,ha⟩:=Bz;have Jw:C≠a:=by
   rcases ha with rfl|e
   ·exact fC.2.1
   ·exact fun z=>fC.2.2.2.1 y a e z.symm
  exact⟨m,hn.sameBut sb Jw,fun Qo NZ=>⟨g2,l.trans l2,I2.turned (t':=s2.toks) (ch:=[C]) (fun b o hb e=>(NZ.2 b (by simpa using hb)).trans e) fun b hb=>by
   have z:b=C:=by simpa using hb
   subst z;exact NY⟩⟩
end
theorem gE {n:Nat}:∀{xs:List T},fj n xs=true↔∀(i:Nat) x,xs[i]?=some x->lt n x=true
 | []=>by simp [fj]
 | x::xs=>by
  rw [fj,QS,gE];constructor
  ·rintro⟨h1,h2⟩ i y e
   cases i with
   | zero=>simp at e;subst e;exact h1
   | succ i=>exact h2 i y (by simpa using e)
  ·exact fun h=>⟨h 0 x rfl,fun i y e=>h (i+1) y (by simpa using e)⟩
theorem jI {n:Nat}:∀{xs:List (T × T)},yU n xs=true↔∀(i:Nat) x,xs[i]?=some x->lt n x.1=true/\lt n x.2=true
 | []=>by simp [yU]
 | (a,b)::xs=>by
  rw [yU,QS,QS,jI];constructor
  ·rintro⟨h1,h2⟩ i y e
   cases i with
   | zero=>simp at e;subst e;exact h1
   | succ i=>exact h2 i y (by simpa using e)
  ·exact fun h=>⟨h 0 _ rfl,fun i y e=>h (i+1) y (by simpa using e)⟩
theorem vT {n:Nat}:∀{xs:List (Str × T)},jG n xs=true->∀f x,xs.lookup f=some x->lt n x=true
 | [],_,f,x,e=>by simp at e
 | (a,b)::xs,h,f,x,e=>by
  rw [jG,QS] at h;rw [Rb] at e;split at e
  ·cases e;exact h.1
  ·exact vT h.2 f x e
theorem RT.re {g' cx:G} {n0:Nat} (hr:∀n p,n<n0->at_ g'.α n=some p->at_ cx.α n=some p) (lS:∀a o,g'.kn true a o->cx.kn true a o) (hm:cx.cls=g'.cls) (hw:cx.w=g'.w) {p:Option (Rm × Rm)} {t:T} {v:QN} (h:RT g' p t v) :
  ∀{q:Option (Rm × Rm)},lt n0 t=true->(p=none->q=none)->(∀a d b o,qH p a d->(b=a\/b=d)->g'.kn p.isNone b o->qH q a d/\cx.kn q.isNone b o)->RT cx q t v:=by
 have k0:∀a d b o,qH none a d->(b=a\/b=d)->g'.kn (none:Option (Rm × Rm)).isNone b o->qH none a d/\cx.kn (none:Option (Rm × Rm)).isNone b o:=fun a d b o _ _ k=>⟨.inl rfl,lS b o k⟩
 induction h with
 | bj=>intro q _ hp _;rw [hp rfl];exact .bj
 | bl b=>intro q _ hp _;rw [hp rfl];exact .bl b
 | int i t=>intro q _ hp _;rw [hp rfl];exact .int i t
 | str s t h=>intro q _ hp _;rw [hp rfl];exact .str s t h
 | ty n=>intro q _ hp _;rw [hp rfl];exact .ty n
 | own h=>intro q _ hp _;rw [hp rfl];exact .own (by rw [hm];exact h)
 | ref h=>intro q hl hp _;rw [hp rfl];exact .ref (hr _ _ (by rw [lt] at hl;exact of_decide_eq_true hl) h)
 | tup hk hc hd hz hl hi ih =>
  intro q bL hp hk';rw [hp rfl];rw [lt] at bL;exact .tup (lS _ _ hk) hc hd hz hl fun i x v e1 e2=>ih i x v e1 e2 (gE.mp bL i x e1) (fun _=>rfl) k0
 | lst ht hk hz hl hi ih =>
  intro q bL hp hk';have z:=hk' _ _ _ _ ht (.inl rfl) hk
  rw [lt] at bL;exact .lst z.1 z.2 hz hl fun i x v e1 e2=>ih i x v e1 e2 (gE.mp bL i x e1) (fun _=>rfl) k0
 | ah ht hk hx hd hz hl hn hs hh h1 h2 i1 i2 =>
  intro q bL hp hk';have z:=hk' _ _ _ _ ht (.inl rfl) hk
  rw [lt] at bL;exact .ah z.1 z.2 hx hd hz hl hn hs (by rw [hw];exact hh) (fun i x v e1 e2=>i1 i x v e1 e2 (jI.mp bL i x e1).1 (fun _=>rfl) k0) fun i x v e1 e2=>i2 i x v e1 e2 (jI.mp bL i x e1).2 (fun _=>rfl) k0
 | obj ht hne hc hk lK hd hs hu hz hn hl hi ih =>
  intro q bL hp hk';have z:=hk' _ _ _ _ ht (.inl rfl) hk
  have z2:=hk' _ _ _ _ ht (.inr rfl) lK;rw [lt] at bL;exact .obj z.1 hne (by rw [hm];exact hc) z.2 z2.2 hd hs hu hz hn hl fun f x v e1 e2=>ih f x v e1 e2 (vT bL f x e1) (fun _=>rfl) k0
theorem sN {n:Nat}:∀{xs:List (Str × T)},(∀p∈xs,lt n p.2=true)->jG n xs=true
 | [],_=>rfl
 | (a,b)::xs,h=>by
  rw [jG,h _ QR,sN fun p hp=>h p (QV _ hp)];rfl
theorem gF {α β:Type} {f:α->Option β}:∀{xs:List α} {ys:List β},xs.mapM f=some ys->xs.length=ys.length/\∀(i:Nat) y,ys[i]?=some y->∃x,xs[i]?=some x/\f x=some y
 | [],ys,h=>by simp at h;subst h;exact⟨rfl,fun i y e=>by simp at e⟩
 | x::xs,ys,h=>by
  rw [Tw] at h;cases e1:f x with
  | none=>rw [e1] at h;cases h
  | some y =>
   cases e2:xs.mapM f with
   | none=>rw [e1,e2] at h;cases h
   | some zs =>
    rw [e1,e2] at h;cases h;obtain⟨l,a⟩:=gF e2;refine⟨by simp [l],fun i z e=>?_⟩;cases i with
    | zero=>simp at e;subst e;exact⟨x,rfl,e1⟩
    | succ i=>exact a i z (by simpa using e)
theorem fo {g' cx:G} {n0:Nat} {L':aa} (hr:∀n p,n<n0->at_ g'.α n=some p->at_ cx.α n=some p) (lS:∀a o,g'.kn true a o->cx.kn true a o) (hc:∀n c,n0<=n->at_ L' n=some c->(∀k,bZ n0 L' k c=none)\/∃p,at_ g'.α n=some p/\RT g' (some p) c (.ref p.1)/\∀b o,(b=p.1\/b=p.2)->g'.kn false b o->cx.kn true b o) (hm:cx.cls=g'.cls) (hw:cx.w=g'.w) :
  ∀(k:Nat) {p:Option (Rm × Rm)} {t t':T} {v:QN},RT g' p t v->(∀q,p=some q->∀b o,(b=q.1\/b=q.2)->g'.kn false b o->cx.kn true b o)->bZ n0 L' k t=some t'->RT cx none t' v
 | 0,_,_,_,_,_,_,e=>by cases e
 | k+1,p,t,t',v,h,hp,e=>by
  have kn:∀a d b o,qH p a d->(b=a\/b=d)->g'.kn p.isNone b o->qH none a d/\cx.kn (none:Option (Rm × Rm)).isNone b o:=fun a d b o ht hb hk=>by
   refine⟨.inl rfl,?_⟩;rcases ht with rfl|rfl
   ·exact lS b o hk
   ·exact hp _ rfl b o hb hk
  unfold bZ at e;split at e
  ·rename_i hl
   cases e;exact h.re hr lS hm hw hl (fun _=>rfl) kn
  ·rename_i bL
   have IJ:∀q:Rm × Rm,(none:Option (Rm × Rm))=some q->∀b o,(b=q.1\/b=q.2)->g'.kn false b o->cx.kn true b o:=fun q z=>by cases z
   cases h with
   | bj=>cases e
   | bl b=>cases e
   | int i t=>cases e
   | str s t h=>cases e
   | ty n=>cases e
   | own h=>cases e
   | ref h =>
    rename_i n p;have hn:n0<=n:=Nat.le_of_not_lt fun z=>bL (by rw [lt];exact decide_eq_true z)
    cases ec:at_ L' n with
    | none=>simp only [ec] at e;cases e
    | some c =>
     simp only [ec] at e;rcases hc n c hn ec with z|⟨q,h1,h2,h3⟩
     ·rw [z] at e;cases e
     ·rw [h] at h1;cases h1
      exact fo hr lS hc hm hw k h2 (fun q z=>by cases z;exact h3) e
   | tup hk Fv hd hz hl hi =>
    obtain⟨ys,e1,rfl⟩:=QY.mp e;obtain⟨len,at'⟩:=gF e1;exact .tup (lS _ _ hk) Fv hd (by rw [<- len];exact hz) (by rw [<- len];exact hl) fun i y v q1 q2=>let ⟨x,x1,x2⟩:=at' i y q1;fo hr lS hc hm hw k (hi i x v x1 q2) IJ x2
   | lst ht hk hz hl hi =>
    obtain⟨ys,e1,rfl⟩:=QY.mp e;obtain⟨len,at'⟩:=gF e1;have z:=kn _ _ _ _ ht (.inl rfl) hk
    exact .lst z.1 z.2 (by rw [<- len];exact hz) (by rw [<- len];exact hl) fun i y v q1 q2=>let ⟨x,x1,x2⟩:=at' i y q1;fo hr lS hc hm hw k (hi i x v x1 q2) IJ x2
   | ah ht hk hx hd hz hl hn hs hh h1 h2 =>
    rename_i a o es nn ks;obtain⟨ys,e1,rfl⟩:=QY.mp e;obtain⟨len,at'⟩:=gF e1;have z:=kn _ _ _ _ ht (.inl rfl) hk
    have at2:∀(i:Nat) y,ys[i]?=some y->∃x,ks[i]?=some x/\lt n0 x.1=true/\x.1=y.1/\bZ n0 L' k x.2=some y.2:=fun i y q=>by
     obtain⟨x,x1,x2⟩:=at' i y q;split at x2
     ·rename_i N1
      obtain⟨z,z1,rfl⟩:=QY.mp x2;exact⟨x,x1,N1,rfl,z1⟩
     ·cases x2
    refine .ah z.1 z.2 hx hd (by rw [<- len];exact hz) (by rw [<- len];exact hl) ?_ hs (fun i y v q1 q2=>?_) (fun i y v q1 q2=>?_) fun i y v q1 q2=>?_
    ·have:ys.map (·.1)=ks.map (·.1):=V1 fun i=>by
      rw [Rd,Rd];cases q:ys[i]? with
      | none=>rw [SY (by rw [len];exact VU.mp q)]
      | some y=>obtain⟨x,x1,_,x3,_⟩:=at2 i y q;rw [x1];show some y.1=some x.1;rw [x3]
     rw [this];exact hn
    ·obtain⟨x,x1,_,x3,_⟩:=at2 i y q1;rw [hw,<- x3];exact hh i x v x1 q2
    ·obtain⟨x,x1,x2,x3,_⟩:=at2 i y q1
     rw [<- x3];exact(h1 i x v x1 q2).re hr lS hm hw x2 (fun _=>rfl) fun a d b o _ _ k=>⟨.inl rfl,lS b o k⟩
    ·obtain⟨x,x1,_,_,x4⟩:=at2 i y q1;exact fo hr lS hc hm hw k (h2 i x v x1 q2) IJ x4
   | obj ht hne Fv hk lK hd hs hu hz hn hl hi =>
    rename_i a d C od es nn cn fs;obtain⟨ys,e1,rfl⟩:=QY.mp e;obtain⟨len,at'⟩:=gF e1;have z:=kn _ _ _ _ ht (.inl rfl) hk
    have z2:=kn _ _ _ _ ht (.inr rfl) lK;have lk:∀(fs ys:List (Str × T)),fs.length=ys.length->(∀(i:Nat) y,ys[i]?=some y->∃x,fs[i]?=some x/\x.1=y.1/\bZ n0 L' k x.2=some y.2)->∀f,(∀y,ys.lookup f=some y->∃x,fs.lookup f=some x/\bZ n0 L' k x=some y)/\(ys.lookup f).isSome=(fs.lookup f).isSome:=fun fs=>by
     induction fs with
     | nil=>intro ys hl _ f;cases ys with
      | nil=>exact⟨fun y e=>by simp at e,rfl⟩
      | cons _ _=>simp at hl
     | cons x fs ih =>
      intro ys hl h f;cases ys with
      | nil=>simp at hl
      | cons y ys =>
       obtain⟨x',q1,q2,q3⟩:=h 0 y rfl;simp at q1;subst q1;have r:=ih ys (by simpa using hl) (fun i y e=>by simpa using h (i+1) y (by simpa using e)) f
       obtain⟨xa,xb⟩:=x;obtain⟨ya,yb⟩:=y;have q2:xa=ya:=q2
       subst q2;rw [Rb,Rb];cases f == xa with
       | true=>exact⟨fun y e=>⟨xb,rfl,by cases e;exact q3⟩,rfl⟩
       | false=>exact r
    have at2:=lk _ ys len fun i y q=>by
     obtain⟨x,x1,x2⟩:=at' i y q;obtain⟨z,z1,rfl⟩:=QY.mp x2;exact⟨x,x1,rfl,z1⟩
    have names:ys.map (·.1)=fs.map (·.1):=V1 fun i=>by
     rw [Rd,Rd];cases q:ys[i]? with
     | none=>rw [SY (by rw [len];exact VU.mp q)]
     | some y =>
      obtain⟨x,x1,x2⟩:=at' i y q;obtain⟨z,z1,rfl⟩:=QY.mp x2;rw [x1];rfl
    exact .obj z.1 hne (by rw [hm];exact Fv) z.2 z2.2 hd hs hu (by rw [<- len];exact hz) (by rw [names];exact hn) (fun f=>by rw [(at2 f).2];exact hl f) fun f y v q1 q2=>let ⟨x,x1,x2⟩:=(at2 f).1 y q1;fo hr lS hc hm hw k (hi f x v x1 q2) IJ x2
theorem Dh {g' cx:G} {n0:Nat} {L':aa} (hr:∀n p,n<n0->at_ g'.α n=some p->at_ cx.α n=some p) (lS:∀a o,g'.kn true a o->cx.kn true a o) (va:∀n p b o,n0<=n->at_ g'.α n=some p->(b=p.1\/b=p.2)->g'.kn false b o->cx.kn true b o) (hm:cx.cls=g'.cls) (hw:cx.w=g'.w) (r:Rel g' L') (k:Nat) {t t':T} {v:QN} (h:RT g' none t v) (e:bZ n0 L' k t=some t'):RT cx none t' v :=
 fo hr lS (fun n c hn q=>let ⟨p,h1,h2⟩:=r.cells n c q;.inr ⟨p,h1,h2,fun b o hb=>va n p b o hn h1 hb⟩) hm hw k h (fun q z=>by cases z) e
theorem iB {α:Type} {n0 n:Nat}:∀{L:List α},n<n0->n0<=L.length->at_ (L.drop (L.length - n0)) n=at_ L n
 | [],h1,h2=>by simp at h2;omega
 | c::L,h1,h2=>by
  by_cases e:n0=(c::L).length
  ·rw [<- e,Nat.sub_self,List.drop_zero]
  ·have h3:n0<=L.length:=by simp at h2 e;omega
   have e2:(c::L).length - n0=(L.length - n0)+1:=by simp;omega
   rw [e2,List.drop_succ_cons,iB h1 h3];have z:¬ n=L.length:=by omega
   conv=>rhs;unfold at_;rw [if_neg z]
theorem vU {α:Type}:∀{fs:List (Str × α)} {p:Str × α},(fs.map (·.1)).Nodup->p∈fs->fs.lookup p.1=some p.2
 | (a,b)::fs,p,hn,hp=>by
  rw [Rb];rw [Q4,Sf] at hn;rcases Q5.mp hp with rfl|hp
  ·simp
  ·have:(p.1 == a)=false:=by
    cases e:p.1 == a with
    | false=>rfl
    | true=>exact absurd (Rj.mpr ⟨p,hp,by simpa using e⟩) hn.1
   rw [this];exact vU hn.2 hp
theorem RT.lt {g:G} {p:Option (Rm × Rm)} {t:T} {v:QN} (h:RT g p t v):M.lt g.α.length t=true:=by
 induction h with
 | ref h=>rw [M.lt];exact decide_eq_true (dN h)
 | tup hk hc hd hz hl hi ih =>
  rw [M.lt,gE];intro i x e;have:=(Q2.mp e).1
  exact ih i x _ e (by rw [QU (by omega)])
 | lst ht hk hz hl hi ih =>
  rw [M.lt,gE];intro i x e;have:=(Q2.mp e).1
  exact ih i x _ e (by rw [QU (by omega)])
 | ah ht hk hx hd hz hl hn hs hh h1 h2 i1 i2 =>
  rw [M.lt,jI];intro i x e;have:=(Q2.mp e).1
  exact⟨i1 i x _ e (by rw [QU (by omega)]),i2 i x _ e (by rw [QU (by omega)])⟩
 | obj ht hne hc hk lK hd hs hu hz hn hl hi ih =>
  rw [M.lt];refine sN fun q hq=>?_
  have e:=vU hn hq;obtain⟨v,ev⟩:=R4.mp ((hl q.1).symm.trans (by rw [e];rfl));exact ih q.1 q.2 v e ev
 | _=>rfl
theorem Di {g g':G} {L L' Lo:aa} {t t':T} {u:QN} (l:Le g g') (r0:Rel g L) (r:Rel g' L') (h:RT g' none t u) (e:fin L t L'=.ok t' Lo) :
  ∃cx,Le g cx/\Rel cx Lo/\RT cx none t' u/\(∀a b o,cx.H a=some (b,o)->∃b',g'.H a=some (b',o))/\(∀a,g'.H a=none->cx.H a=none)/\∀a o,g'.H a=some (true,o)->cx.H a=some (true,o):=by
 classical
 unfold fin at e;split at e
 ·rename_i ho
  have n0:L.length<=L'.length:=by
   cases hn:L.length with
   | zero=>exact Rf _
   | succ m =>
    obtain⟨p,hp⟩:=nh (L:=g.α) (n:=m) (by rw [r0.len];omega);have:=dN (l.α _ _ hp)
    rw [r.len] at this;omega
  cases ef:bZ L.length L' 9 t with
  | none=>rw [ef] at e;cases e
  | some t1 =>
   rw [ef] at e;cases e
   let nw:Rm->Prop:=fun a=>∃n p,L.length<=n/\at_ g'.α n=some p/\(a=p.1\/a=p.2)
   let cx:G:={ g' with H:=fun a=>if nw a then (g'.H a).map fun q=>(true,q.2) else g'.H a,α:=g'.α.drop (g'.α.length - L.length) }
   have hH:∀a,cx.H a=if nw a then (g'.H a).map fun q=>(true,q.2) else g'.H a:=fun _=>rfl
   have hα:∀n,n<L.length->at_ cx.α n=at_ g'.α n:=fun n hn=>iB hn (by rw [r.len];exact n0)
   have bZ:∀a o,g'.H a=some (true,o)->cx.H a=some (true,o):=fun a o q=>by
    rw [hH];split
    ·rw [q];rfl
    ·exact q
   have lS:∀a o,g'.kn true a o->cx.kn true a o:=fun a o q=>q.elim (fun q=>.inl (bZ a o q)) .inr
   have va:∀n p b o,L.length<=n->at_ g'.α n=some p->(b=p.1\/b=p.2)->g'.kn false b o->cx.kn true b o:=fun n p b o hn hp hb q=>by
    rcases q with q|⟨z,_⟩
    ·refine .inl ?_
     rw [hH,if_pos ⟨n,p,hn,hp,hb⟩,q];rfl
    ·cases z
   have hr:∀n p,n<L.length->at_ g'.α n=some p->at_ cx.α n=some p:=fun n p hn hp=>(hα n hn).trans hp
   have vV:∀n p,n<L.length->at_ g'.α n=some p->¬ nw p.1/\¬ nw p.2:=fun n p hn hp=>by
    refine⟨?_,?_⟩ <;>
    ·rintro⟨m,q,hm,hq,hb⟩
     have ap:=r.apart n m p q hp hq (by omega);rcases hb with hb|hb
     ·first|exact ap.1 hb|exact ap.2.2.1 hb
     ·first|exact ap.2.1 hb|exact ap.2.2.2 hb
   refine⟨cx,⟨fun a o q=>bZ a o (l.f a o q),fun n p q=>hr n p (by rw [<- r0.len];exact dN q) (l.α n p q),l.B,l.m,l.w⟩,⟨?_,fun n c q=>?_,fun n m p q h1 h2=>?_,fun n p q=>?_⟩,Dh hr lS va rfl rfl r 9 h ef,fun a b o q=>?_,fun a q=>?_,bZ⟩
   ·show(g'.α.drop _).length=_
    rw [Ru,Ru,r.len]
   ·have hn:n<L.length:=by have:=dN q;rw [Ru] at this;omega
    have q':at_ L' n=some c:=(iB hn n0).symm.trans q
    obtain⟨p,h1,h2⟩:=r.cells n c q';have bL:M.lt L.length c=true:=by
     rcases ho n c q with z|z
     ·obtain⟨p0,_,z2⟩:=r0.cells n c z
      rw [<- r0.len];exact z2.lt
     ·exact z
    refine⟨p,hr n p hn h1,h2.re hr lS rfl rfl bL (fun z=>by cases z) fun a d b o ht hb hk=>⟨ht,?_⟩⟩;have no:=vV n p hn h1
    rcases ht with z|z
    ·cases z
    ·cases z
     rcases hk with hk|⟨z,_⟩
     ·refine .inl ?_
      rw [hH,if_neg (by rcases hb with hb|hb <;> rw [hb];exact no.1;exact no.2)];exact hk
     ·cases z
   ·have hn:n<L.length:=by have:=dN h1;rw [Ru,r.len] at this;omega
    have hm:m<L.length:=by have:=dN h2;rw [Ru,r.len] at this;omega
    exact r.apart n m p q ((hα n hn).symm.trans h1) ((hα m hm).symm.trans h2)
   ·have hn:n<L.length:=by have:=dN q;rw [Ru,r.len] at this;omega
    have q':=(hα n hn).symm.trans q;obtain⟨⟨o1,h1⟩,o2,h2⟩:=r.live n p q';have no:=vV n p hn q'
    exact⟨⟨o1,by rw [hH,if_neg no.1];exact h1⟩,o2,by rw [hH,if_neg no.2];exact h2⟩
   ·rw [hH] at q
    split at q
    ·obtain⟨z,z1,z2⟩:=QY.mp q
     cases z2;exact⟨z.1,z1⟩
    ·exact⟨b,q⟩
   ·rw [hH,q];split <;> rfl
 ·cases e
structure dS (k:Nat) (A:RH):Prop where
 hd:A.handled=none
 dp:A.depth+3 * k+5<recursionLimit
 un:A.units+16 * k+200<cLine
theorem dS.mono {j k:Nat} {A:RH} (r:dS k A) (h:j<=k):dS j A:=⟨r.hd,by have:=r.dp;omega,by have:=r.un;omega⟩
theorem dS.deeper {k:Nat} {A:RH} (r:dS (k+1) A) (env:Env):dS k (A.deeper env) :=
 ⟨r.hd,by have:=r.dp;show A.depth+1+3 * k+5<_;omega,by have:=r.un;show A.units+3+16 * k+200<_;omega⟩
theorem qR {A:RH} {C:Rm} {us:List QN} {kw:List (Str × QN)}:(A.under (.builtin "type.__call__" ⟨.ref C::us,kw⟩)).depth=A.depth+1:=by
 first|rfl|simp [Around.under,Code.weight,Code.isCreation,Code.isGuard,Code.isCaller,Code.frames,Code.isFrame,guardIds]
theorem qS {A:RH} {C:Rm} {us:List QN} {kw:List (Str × QN)}:(A.under (.builtin "type.__call__" ⟨.ref C::us,kw⟩)).units=A.units+1:=by
 first|rfl|simp [Around.under,Code.cUnits,Code.frames,Code.isFrame]
theorem dS.make {k:Nat} {A:RH} (r:dS (k+1) A) (C:Rm) (us:List QN) (kw:List (Str × QN)):dS k (A.under (.builtin "type.__call__" ⟨.ref C::us,kw⟩)) :=
 ⟨r.hd,by have:=r.dp;rw [qR];omega,by have:=r.un;rw [qS];omega⟩
theorem dS.depth {k:Nat} {A:RH} (r:dS k A):A.depth<recursionLimit:=by have:=r.dp;omega
theorem dS.units {k:Nat} {A:RH} (r:dS k A):A.units+64<cLine:=by have:=r.un;omega
structure qT (h:Heap) (x dx C:Rm) (mA:Str->Option QN):Prop where
 obj:h.get? x=some (R3 C dx)
 ns:h.Ns1 dx mA
 ne:dx≠x
theorem ui {h:Heap} {dx:Rm} {mA:Str->Option QN} (n:h.Ns1 dx mA):∃od,h.get? dx=some od/\∀name,VV name od=some (mA name):=by
 obtain⟨o,es,ep,ho,hd,hk,_,hm⟩:=n;refine⟨o,ho,fun name=>?_⟩;have e:=hm name
 unfold nsFind findBy at e;rw [<- Array.find?_toList] at e;unfold VV;rw [hd];dsimp only;split
 ·rename_i y q
  rw [q] at e;exact congrArg some e
 ·rename_i q
  rw [q] at e;have a:es.toList.any (·.refKey)=false:=by
   rw [List.any_eq_false];intro y hy;obtain⟨z,t,hkey⟩:=hk y (Uv.mp hy);simp [DictEntry.refKey,hkey]
  have a':¬ es.toList.any (·.refKey)=true:=by rw [a];exact RC
  rw [if_neg a'];exact congrArg some e
theorem qT.look {h:Heap} {x dx C:Rm} {mA:Str->Option QN} (I:qT h x dx C mA):∃od,PySem.W.InstAt h x (R3 C dx) C (some od)/\∀name,VV name od=some (mA name) :=
 let ⟨od,ho,hl⟩:=ui I.ns
 ⟨od,⟨I.obj,rfl,rfl,ho⟩,hl⟩
section
variable {prog:RY} {w:SU} {A:RH} {E:QN->QP->Prop} {s:QP} {K:Ro} {x dx C f:Rm} {mA:Str->Option QN} {name:Str} {v:QN}
theorem get_map {expr:Bool} {Q:QN->QP->Prop} (X:K.In s.heap) (I:qT s.heap x dx C mA) (hg:UH K C name=true) (hh:Va K C=true)
  (ha:R8 K (.ref C) name=some none) (hv:mA name=some v) (hv':XG v=true) (h:Q v { s with toks:=s.toks+1 }) :
  QZ (model prog w) A (getAttr (.ref x) name expr) Q E s:=by
 obtain⟨od,J,hl⟩:=I.look;exact PySem.W.get_value X J (Vu hg).1 (PySem.W.findObj_own hh ha rfl (by rw [hl,hv])) hv' h
theorem vW {pl:Sem Bool} {Q:QN × List QN->QP->Prop} (X:K.In s.heap) (I:qT s.heap x dx C mA) (hg:UH K C name=true)
  (hf:R8 K (.ref C) name=some (some (.ref f))) (ht:UM K (.ref f)=true) (hv:mA name=none) (h:Q (.ref f,[.ref x]) s) :
  QZ (model prog w) A (getMethod (.ref x) name pl) Q E s:=by
 obtain⟨od,J,hl⟩:=I.look;exact PySem.W.method_fn X J (Vu hg).1 (Vu hg).2 hf (beq_iff_eq.mp ht) (by show(VV name od).map (·.isSome)=some false;rw [hl,hv];rfl) h
theorem zG {ns:List Str} {Q:Unit->QP->Prop} (X:K.In s.heap) (I:qT s.heap x dx C mA)
  (hs:R8 K (.ref C) "__setattr__"=some (some (.builtin "object.__setattr__"))) (hp:V2 K C=true) (ht:WN K C name=some none) (hh:Va K C=true)
  (hw:PySem.Within mA ns) (hsz:ns.length<=Q9)
  (h:∀h',qT h' x dx C (fun y=>if y=name then some v else mA y)->Ss dx s.heap h'->Q () { s with heap:=h',toks:=s.toks+2 }) :
  QZ (model prog w) A (setAttr (.ref x) name v) Q E s:=by
 obtain⟨od,J,hl⟩:=I.look;refine PySem.W.set_plain X J hs (PySem.W.osa_open (s:={ s with toks:=s.toks+1 }) (r:=none) X J hp ht fun b=>?_);obtain⟨cd,hc,hd'⟩:=PySem.W.any_some hh;have hx:s.heap.get? x=some ⟨.ref C,some dx,.plain,#[]⟩:=I.obj
 refine QJ (QL (QJ (QJ (wpAny_loadPart hx (QJ (PySem.W.Looks.here (s:={ s with toks:=s.toks+1 }) (PySem.W.looks_clsIn X hc) ?_))))));rw [hd'];refine QL (a:=some dx) (QJ (QL (QJ ?_)));refine wpAny_nsSet1 (s:={ s with toks:=s.toks+1 }) I.ns fun h' By mx=>?_
 obtain⟨oD,Qp,Qq,N2,N3,N4⟩:=By.count (PySem.Within.cons name v hw);refine QJ (wpAny_lookBehind N2 (by rw [N3];exact pastItsLine_dict (Ra N4 (by rw [QX];omega))) ?_);exact QL (h _ ⟨(mx.2 _ (Sy I.ne)).trans I.obj,By,I.ne⟩ mx)
theorem vX {R:Result->QP->Prop} {vs:List QN} {kw:List (Str × QN)} (X:K.In s.heap) (hm:Vv K C=true)
  (hi:R8 K (.ref C) "__init__"=some (some (.ref f))) (hf:PySem.W.typeIn K (.ref f)=some (.type "function"))
  (h:codeAny (model prog w) (A.under (.builtin "type.__call__" ⟨.ref C::vs,kw⟩)) (.call (.ref f) ⟨.ref (s.heap.objs.size+1)::vs,kw⟩) (PySem.W.InitBack (s.heap.objs.size+1) R)
   { s with heap:=(s.heap.push R5).push (R3 C s.heap.objs.size) }) :
  codeAny (model prog w) A (.call (.ref C) ⟨vs,kw⟩) R s:=by
 obtain⟨hh,g,d,t,os⟩:=s;exact PySem.W.make_core (PySem.W.makes_of X hm) (PySem.W.looks_findIn X hi) (fun self=>PySem.W.bind_fn X self hf) (.inl rfl) h
end
structure zH (K:Ro) (C:Rm):Prop where
 pg:UH K C Str.empty=true
 hd:Va K C=true
 po:V2 K C=true
 sa:R8 K (.ref C) "__setattr__"=some (some (.builtin "object.__setattr__"))
theorem zH.get {K:Ro} {C:Rm} (c:zH K C) (f:Str):UH K C f=true:=c.pg
noncomputable def h8 (K:Ro) (C:Rm) (f:Str):Prop:=R8 K (.ref C) f=some none
theorem h8.F9 {K:Ro} {C:Rm} {f:Str} (n:h8 K C f):WN K C f=some none:=by
 unfold WN;rw [show R8 K (.ref C) f=some none from n];rfl
structure Meth (K:Ro) (C:Rm) (m:Str) (f:Rm):Prop where
 at_:R8 K (.ref C) m=some (some (.ref f))
 fn:UM K (.ref f)=true
 kp:Si K (.ref f)=true
section
variable {A:RH} {E:QN->QP->Prop}
theorem attr_of {prog:RY} {w:SU} {env:Env} {e:Expr} {f:Str} {pos:Pos} {s:QP} {Q:QN->QP->Prop} (hb:attributeBase e f env (eval e env)=eval e env)
  (h:QZ (model prog w) A (eval e env) (fun o s₁=>QZ (model prog w) A (getAttr o f true) Q E s₁) E s):QZ (model prog w) A (eval (.Attribute e f pos) env) Q E s :=
 Attribute_any_ h (by rw [arm_eval_Attribute,hb])
end
theorem mz {kindOf:Str->Option NameKind} {x:Str}:∀{binds:List (Str × QN)} {m:Str->Option QN},(∀v,(x,v)∉binds)->bindL kindOf binds m x=m x
 | [],_,_=>rfl
 | (n,v)::r,m,h=>by
  unfold bindL;rw [mz fun w hw=>h w (QV _ hw)];split
  ·have:x≠n:=by rintro rfl;exact h v QR
   simp [this]
  ·rfl
theorem mB {kindOf:Str->Option NameKind} {x:Str}:∀{binds:List (Str × QN)} {m:Str->Option QN},(∀v,(x,v)∉binds)->bindC kindOf binds m x=m x
 | [],_,_=>rfl
 | (n,v)::r,m,h=>by
  unfold bindC;rw [mB fun w hw=>h w (QV _ hw)];split
  ·rfl
  ·have:x≠n:=by rintro rfl;exact h v QR
   simp [this]
theorem mC {kindOf:Str->Option NameKind} {x:Str} {v:QN}:∀{P:List Str} {vs:List QN} {i:Nat} {m:Str->Option QN},P.Nodup->P[i]?=some x->vs[i]?=some v->kindOf x=some .local ->
  bindL kindOf (P.zip vs) m x=some v
 | [],_,_,_,_,h,_,_=>by simp at h
 | _::_,[],_,_,_,_,h,_=>by simp at h
 | p::P,w::vs,0,m,nd,h1,h2,hk=>by
  simp at h1 h2;subst h1;subst h2;show bindL kindOf ((p,w)::P.zip vs) m p=_
  unfold bindL;rw [mz fun v hv=>(Sf.mp nd).1 (UR hv).1,if_pos hk];simp
 | p::P,w::vs,i+1,m,nd,h1,h2,hk=>by
  show bindL kindOf ((p,w)::P.zip vs) m x=_;unfold bindL;exact mC (i:=i) (Sf.mp nd).2 (by simpa using h1) (by simpa using h2) hk
theorem mD {kindOf:Str->Option NameKind} {x:Str} {v:QN}:∀{P:List Str} {vs:List QN} {i:Nat} {m:Str->Option QN},P.Nodup->P[i]?=some x->vs[i]?=some v->kindOf x≠some .local ->
  bindC kindOf (P.zip vs) m x=some v
 | [],_,_,_,_,h,_,_=>by simp at h
 | _::_,[],_,_,_,_,h,_=>by simp at h
 | p::P,w::vs,0,m,nd,h1,h2,hk=>by
  simp at h1 h2;subst h1;subst h2;show bindC kindOf ((p,w)::P.zip vs) m p=_
  unfold bindC;rw [mB fun v hv=>(Sf.mp nd).1 (UR hv).1,if_neg hk];simp
 | p::P,w::vs,i+1,m,nd,h1,h2,hk=>by
  show bindC kindOf ((p,w)::P.zip vs) m x=_;unfold bindC;exact mD (i:=i) (Sf.mp nd).2 (by simpa using h1) (by simpa using h2) hk
theorem oV {sc:Scope} {n:Nat} {x:Str} (h:sc.names.lookup x=some .cell):∃c,(cellsFrom n sc.names []).lookup x=some c:=by
 have q:=U3 sc.names n [] (.inl h);exact R4.mp q
section
variable {X:Cx} {pins:aJ} {φ:Fr} {g g1:G} {L L':aa} {s s':QP} {w t:T} {u:QN} {e o:Expr} {es:List Expr} {m ma mb:SE} {pos apos:Pos} {x f:Str} {A:RH} {E:QN->QP->Prop}
theorem RT.handed {t:T} {u:QN} (r:RT g none t u):XG u=true:=by cases r <;> rfl
structure ClsOk (K:Ro) (fl:List Str) (C:Rm):Prop where
 c:zH K C
 n:∀f∈fl,h8 K C f
theorem Inv.obj {p:Option (Rm × Rm)} {cn:Str} {fs:List (Str × T)} (I:Inv X pins φ g L s) (r:RT g p (.obj cn fs) u):∃a d C es,u=.ref a/\X.cls cn=some C/\qT s.heap a d C (nsFind es)/\(∀f,(fs.lookup f).isSome=(nsFind es f).isSome)/\(∀f x v,fs.lookup f=some x->nsFind es f=some v->RT g none x v)/\fs.length<=1000/\(fs.map (·.1)).Nodup/\qH p a d/\d≠a /\
  g.kn p.isNone a (R3 C d)/\∃od,g.kn p.isNone d od:=by
 cases r with
 | obj ht hne hc hk lK hd hs hu hz hn hl hi=>exact⟨_,_,_,_,rfl,by rw [<- I.gm];exact hc,⟨I.kn hk,⟨_,_,_,I.kn lK,hd,hs,hu,fun _=>rfl⟩,hne⟩,hl,hi,hz,hn,ht,hne,hk,_,lK⟩
noncomputable def okBase:Expr->Bool
 | .Call (.Name _ _) [] [] _=>false
 | _=>true
theorem base_ok {env:Env} {w:Sem QN} (h:okBase o=true):attributeBase o x env w=w:=by
 unfold attributeBase;split
 ·cases h
 ·rfl
theorem pe_fld {fl:List Str} (hC:∀c C,X.cls c=some C->ClsOk X.K fl C) (hf:f∈fl) (he:PE X o m) (hb:okBase o=true):PE X (.Attribute o f pos) (b1 m (fld f)):=fun I h=>by
 obtain⟨t,L1,e1,h⟩:=R.of h;refine attr_of (base_ok hb) (thn (he I e1) fun u s1 ⟨g1,l1,I1,r1⟩=>?_);obtain⟨p,r⟩:=I1.view r1;unfold fld at h;cases ev:vw L1 t with
 | obj c fs =>
  rw [ev] at h r;obtain⟨a,d,C,es,rfl,hc,O,hl,hi,_⟩:=I1.obj r;have h:lift (fs.lookup f) L1=.ok _ _:=h
  cases el:fs.lookup f with
  | none=>rw [el] at h;cases h
  | some x =>
   rw [el] at h;cases h;obtain⟨v,ev⟩:=R4.mp ((hl f).symm.trans (by rw [el];rfl));have K:=hC c C hc
   have rv:=hi f _ v el ev;exact get_map I1.Cy O (K.c.get f) K.c.hd (K.n f hf) ev rv.handed ⟨g1,l1,I1.tok _,rv⟩
 | _=>rw [ev] at h;cases h
theorem nq:∀{fs:List (Str × T)} {f y:Str} {t:T},(il fs f t).lookup y=if y=f then some t else fs.lookup y
 | [],f,y,t=>by
  unfold il;rw [Rb];by_cases h:y=f
  ·subst h;simp
  ·have:(y == f)=false:=by simpa using h
   simp [this,h]
 | (a,b)::fs,f,y,t=>by
  unfold il;split
  ·rename_i e
   subst e;rw [Rb,Rb];by_cases h:y=a
   ·subst h;simp
   ·have:(y == a)=false:=by simpa using h
    simp [this,h]
  ·rename_i e
   rw [Rb,Rb,nq];cases q:y == a with
   | true =>
    have:y=a:=by simpa using q
    subst this;simp only [if_neg e]
   | false=>rfl
theorem j7:∀{fs:List (Str × T)} {f:Str} {t:T},(fs.map (·.1)).Nodup->((il fs f t).map (·.1)).Nodup/\(il fs f t).length<=fs.length+1/\∀y,y∈(il fs f t).map (·.1)->y=f\/y∈fs.map (·.1)
 | [],f,t,_=>⟨by simp [il],by simp [il],fun y h=>Or.inl (by simpa [il] using h)⟩
 | (a,b)::fs,f,t,h=>by
  rw [Q4,Sf] at h;unfold il;split
  ·rename_i e
   subst e;exact⟨by rw [Q4,Sf];exact h,by simp,fun y hy=>Or.inr (by rw [Q4] at hy ⊢;exact hy)⟩
  ·rename_i e
   obtain⟨h1,h2,h3⟩:=j7 (f:=f) (t:=t) h.2;refine⟨?_,by simp;omega,fun y hy=>?_⟩
   ·rw [Q4,Sf]
    exact⟨fun z=>(h3 a z).elim e h.1,h1⟩
   ·rw [Q4,Q5] at hy
    rcases hy with hy|hy
    ·exact Or.inr (by rw [Q4];exact Q5.mpr (Or.inl hy))
    ·exact(h3 y hy).imp id fun z=>by rw [Q4];exact QV _ z
theorem vY {o:Expr} {f:Str} {p:Pos} {l:Nat} {env:Env}:swapsWith e (some (.Attribute o f p)) l env=pure false:=by cases e <;> rfl
theorem zI {fl:List Str} (hC:∀c C,X.cls c=some C->ClsOk X.K fl C) (hf:f∈fl) (ho:PE X o mb) (he:PE X e m):PS X (.Assign [.Attribute o f apos] e pos) (dM mb f m):=fun {pins φ g L s} I h=>by
 obtain⟨t,L1,e1,e2,h⟩:=fR h;rw [show dM mb f m φ L=_ from e2];obtain⟨x,L2,e3,e4,h⟩:=fR h;rw [e4];cases ep:oK f x t L2 with
 | none=>simp only [ep] at h;exact absurd rfl h
 | some L3 =>
  simp only [ep];refine plainObj_wpAny_Assign_Attribute (thn (he I e1) fun u s1 ⟨g1,l1,I1,r1⟩=>thn (ho I1 e3) fun ov s2 ⟨g2,l2,I2,r2⟩=>?_) vY;have N5:=r1.le l2
  unfold oK at ep;cases x with
  | ref n =>
   cases r2 with
   | ref hp =>
    rename_i p;cases ea:at_ L2 n with
    | none=>simp only [ea] at ep;cases ep
    | some c =>
     cases c with
     | obj cn fs =>
      simp only [ea] at ep;split at ep
      ·rename_i Qr
       cases ep;obtain⟨q,h1,h2⟩:=I2.rel.cells n _ ea;rw [hp] at h1;cases h1;obtain⟨a,d,C,es,eu,hc,O,hl,hi,hz,hn,ht,hne,hk,od,lK⟩:=I2.obj h2;rcases ht with z|z
       ·cases z
       cases z;have K:=hC cn C hc
       have hd2:g2.H d=some (false,od):=lK.elim id fun z=>by cases z.1
       have hk':g2.H a=some (false,R3 C d):=hk.elim id fun z=>by cases z.1
       have hw:PySem.Within (nsFind es) (fs.map (·.1)):=fun y hy=>by
        have z:(nsFind es y).isSome=true:=by cases q:nsFind es y with|none=>exact absurd q hy|some _=>rfl
        rw [<- hl y] at z;obtain⟨v,hv⟩:=R4.mp z;exact Rj.mpr ⟨(y,v),RD hv,rfl⟩
       refine zG I2.Cy O K.c.sa K.c.po (K.n f hf).F9 K.c.hd hw (by rw [Lm9,Sr];omega) fun h' O' sb=>?_
       obtain⟨Mr,es',Fu,ho',hd',hs',fS,hm'⟩:=O'.ns;have lU:=Le.set (o:=Mr) hd2
       refine⟨g2.set d Mr,(l1.trans l2).trans lU,I2.set (p:=(a,d)) hp (.inr rfl) hd2 (fun b v hb q=>(sb.2 b hb).trans q) ho' ?_⟩;have nm:=j7 (f:=f) (t:=t) hn
       refine .obj (.inr rfl) hne (by show g2.cls cn=_;rw [I2.gm];exact hc) (.inl ((au (Sy hne)).trans hk')) (.inl aj) hd' hs' fS (by omega) nm.1 (fun y=>?_) fun y z v q1 q2=>?_
       ·rw [nq,hm' y]
        by_cases hy:y=f
        ·simp [hy]
        ·simp only [hy,if_false];exact hl y
       ·rw [nq] at q1
        rw [hm' y] at q2;by_cases hy:y=f
        ·simp only [hy,if_true] at q1 q2
         cases q1;cases q2;exact N5.le lU
        ·simp only [hy,if_false] at q1 q2
         exact(hi y z v q1 q2).le lU
      ·cases ep
     | _=>simp only [ea] at ep;cases ep
  | _=>cases ep
end
structure uj (P:RY) (w:SU) (K:Ro) (mg:Str->Option QN) (cls:Str->Option Rm) (base:Heap) (s:QP) (g:G) (L:aa):Prop where
 mod:Mod K mg base
 bs:∀b o,base.get? b=some o->s.heap.get? b=some o/\g.H b=none
 Fs:base.objs.size<=s.heap.objs.size
 hok:yW g.H s.heap
 bare:AllBare s.gens
 rel:Rel g L
 gB:g.B=base
 gm:g.cls=cls
 gw:g.w=w
noncomputable def CE (g:G) (s:QP) (t:T) (L':aa) (u:QN) (s':QP):Prop:=∃g',s'.os=s.os/\AllBare s'.gens/\Un [] g.H g'.H s.heap s'.heap/\yW g'.H s'.heap/\Le g g'/\Rel g' L'/\RT g' none t u
noncomputable def CR (g:G) (s:QP) (t:T) (L':aa) (r:Result) (s':QP):Prop:=match r with
 | .ok (.ret u)=>CE g s t L' u s'
 | _=>False
noncomputable def dT (P:RY) (w:SU) (K:Ro) (mg:Str->Option QN) (cls:Str->Option Rm) (base:Heap) (k:Nat) (f:Rm) (m:Fn):Prop :=
 ∀{A:RH} {s:QP} {g:G} {L L':aa} {us:List QN} {xs:List T} {t:T},dS k A->uj P w K mg cls base s g L->bM g xs us->m xs L=.ok t L'->codeAny (model P w) A (.call (.ref f) ⟨us,[]⟩) (CR g s t L') s
section
variable {X:Cx} {pins:aJ} {φ:Fr} {g g1:G} {L L':aa} {s s':QP} {w t:T} {u:QN} {e o:Expr} {es:List Expr} {m ma mb:SE} {pos p apos:Pos} {x f:Str} {k:Nat} {fa C:Rm} {F:Fn} {ms:List SE}
theorem Inv.Jy (I:Inv X pins φ g L s):uj X.prog X.w X.K X.mg X.cls X.base s g L:=⟨I.ok.mod,I.bs,Ra I.ok.Fs I.sz,I.hok,I.bare,I.rel,I.gB,I.gm,I.gw⟩
theorem Inv.after (I:Inv X pins φ g L s) (h:CE g s t L' u s'):EP X pins φ g t L' u s':=by
 obtain⟨g',os,bare,un,hok,l,rel,r⟩:=h;exact⟨g',l,I.call (ch:=[]) l os un hok bare rel (fun b z=>absurd z (by simp)),r⟩
theorem qU (hF:dT X.prog X.w X.K X.mg X.cls X.base k fa F) (hr:dS k X.A):cR X (.ref fa) F:=fun I r h=>by
 refine wpAny_call (codeAny_mono (hF hr I.Jy r h) fun r s' hq=>?_);cases r with
 | error e=>exact V3 hq
 | ok fl=>cases fl <;> first|exact I.after hq|exact V3 hq
theorem aL {env:Env}:∀{es:List Expr},es.all aF=true->(backTo pos (starEach es env)).any (·.1)=false
 | [],_=>rfl
 | e::es,h=>by
  rw [R0,QS] at h;rw [ai h.1];show(false || (backTo pos (starEach es env)).any (·.1))=false
  rw [aL h.2];rfl
theorem zJ (hF:cR X (.ref fa) F) (hg:Gl X x) (hm:X.mg x=some (.ref fa)) (hk:Si X.K (.ref fa)=true) (Ga:(x == ("__debug__":Str))=false):PE X (.Call (.Name x p) [] [] pos) (af F []):=fun I h =>
 wpAny_Call_Name_kw (m7 I hg hm (Xc I.Cy hk (hF (us:=[]) I .nil h)) Ga)
theorem Dj (hF:cR X (.ref fa) F) (hg:Gl X x) (hm:X.mg x=some (.ref fa)) (hk:Si X.K (.ref fa)=true) (ha:PA X (e::es) (gz ms)) (hs:(e::es).all aF=true) (Ga:(x == ("__debug__":Str))=false):PE X (.Call (.Name x p) (e::es) [] pos) (af F ms):=fun I h=>by
 obtain⟨ts,L1,e1,h⟩:=R.of h;rw [R0,QS] at hs;exact wpAny_Call_Name_kw (m7 I hg hm (Xm (h₀:=X.base) I.ok.mod.Fq hk (thn (ha pos I e1) fun us s1 ⟨g1,l1,I1,r1⟩=>⟨I1.Cy,thn (hF I1 r1 h) fun _ _ z=>z.le l1⟩) (ai hs.1) (aL hs.2)) Ga)
theorem oW {env:Env}:∀{es:List Expr},es.all aF=true->(backTo pos (starEach es env)).all (fun x=>!x.1)=true
 | [],_=>rfl
 | e::es,h=>by
  rw [R0,QS] at h;rw [ai h.1];show(true && (backTo pos (starEach es env)).all (fun x=>!x.1))=true
  rw [oW h.2];rfl
theorem nu {env:Env} (h:es.all aF=true) (hl:es.length<30):((backTo pos (starEach es env)).all (fun x=>!x.1) && (backToKw pos (keywordEach [] env)).all (fun x=>x.1.isSome)
   && decide (es.length+([]:List Keyword).length+(if ([]:List Keyword).isEmpty then 0 else 1)<30))=true:=by
 rw [oW h];show(true && true && decide (es.length+0+0<30))=true
 rw [decide_eq_true (show es.length+0+0<30 by omega)];rfl
theorem zK {o:Expr} {m:Str} {apos pos:Pos} {es:List Expr} {env:Env} (hb:okBase o=true) (h:es.all aF=true) (hl:es.length<30) (iC:(apos.endLine == pos.line)=true) :
  eval (.Call (.Attribute o m apos) es [] pos) env=(do
   let ov <- eval o env
   standAt apos.atName
   let (f,first) <- holding [ov] (getMethod ov m (do return (<- importBound o env).getD true))
   callWith pos f first (backTo pos (starEach es env)) (backToKw pos (keywordEach [] env))):=by
 rw [arm_eval_Call,base_ok hb];have hf:methodCallForm (es.length+([]:List Keyword).length) (backTo pos (starEach es env)) (backToKw pos (keywordEach [] env))=true:=nu h hl
 congr 1;funext ov;congr 1;funext _;unfold methodCall;rw [hf];have hp:methodCallPos true o env apos pos=pure pos:=by
  unfold methodCallPos;rw [iC];rfl
 rw [hp];have hc:calleeOf true o env ov m=getMethod ov m (do return (<- importBound o env).getD true):=rfl
 rw [hc];rfl
theorem zL {mf:Str->Option Fn} (hM:∀c C Fn,X.cls c=some C->mf c=some Fn->∃fa,zH X.K C/\Meth X.K C x fa/\cR X (.ref fa) Fn) (ho:PE X o m) (ha:PA X es (gz ms)) (h0:es=[]->ms=[]) (hs:es.all aF=true) (hl:es.length<30) (hb:okBase o=true) (iC:(apos.endLine == pos.line)=true) :
  PE X (.Call (.Attribute o x apos) es [] pos) (mZ x mf m ms):=fun I h=>by
 obtain⟨t,L1,e1,h⟩:=R.of h;refine PySem.W.methodCall_KW (thn (ho I e1) fun u s1 ⟨g1,l1,I1,r1⟩=>?_) (zK hb hs hl iC);obtain⟨p,r⟩:=I1.view r1;cases ev:vw L1 t with
 | obj c fs =>
  simp only [ev] at h;rw [ev] at r;obtain⟨a,d,C,es',rfl,hc,O,hl',hi,_⟩:=I1.obj r;cases em:mf c with
  | none=>simp only [em] at h;cases h
  | some F =>
   simp only [em] at h;split at h
   ·rename_i hn
    obtain⟨ts,L2,e2,h⟩:=R.of h;obtain⟨fa,c,hm,hF⟩:=hM c C F hc em;have N6:nsFind es' x=none:=by
     have z:=hl' x;cases q:nsFind es' x with
     | none=>rfl
     | some v=>rw [q] at z;cases q2:fs.lookup x with
      | none=>rw [q2] at z;cases z
      | some _=>rw [q2] at hn;cases hn
    refine vW I1.Cy O (c.get x) hm.at_ hm.fn N6 ?_
    cases es with
    | nil =>
     cases h0 rfl;cases e2;exact Xc (first:=[.ref a]) I1.Cy hm.kp (thn (hF (us:=[.ref a]) I1 (.cons r1 .nil) h) fun _ _ z=>z.le l1)
    | cons e es =>
     rw [R0,QS] at hs;exact Xm (first:=[.ref a]) (h₀:=X.base) I.ok.mod.Fq hm.kp (thn (ha pos I1 e2) fun us s2 ⟨g2,l2,I2,r2⟩=>⟨I2.Cy,thn (hF (us:=.ref a::us) I2 (.cons (r1.le l2) r2) h) fun _ _ z=>z.le (l1.trans l2)⟩) (ai hs.1) (aL hs.2)
   ·cases h
 | _=>simp only [ev] at h;cases h
end
theorem um {a b:Nat} (h:a<b\/b<a):a≠b:=fun e=>by omega
structure jJ (N ps:List Str) (sc:Scope):Prop where
 kind:sc.kind=.function
 co:sc.isCoroutine=false
 gen:sc.isGenerator=false
 nd:N.Nodup
 pre:N.take ps.length=ps
 par:∀x∈ps,sc.names.lookup x=some .local\/sc.names.lookup x=some .cell
 qV:∀y∈sc.names,y.2≠.free
noncomputable def vZ (P:RY) (w:SU) (K:Ro) (mg:Str->Option QN) (cls:Str->Option Rm) (base:Heap) (N:List Str) (qual:Str) (scope:Scope) (f:Rm) (cd:QN) (A:RH) (s:QP) (H:Hp):Cx where
 prog:=P
 w:=w
 K:=K
 mg:=mg
 cls:=cls
 base:=base
 A:=A.deeper (envOfC qual scope s.heap.objs.size f cd)
 N:=N
 s₀:=s
 H₀:=H
 env:=envOfC qual scope s.heap.objs.size f cd
 ex:=[]
 fn:=fun _=>true
section
variable {P:RY} {w:SU} {K:Ro} {mg:Str->Option QN} {cls:Str->Option Rm} {base:Heap} {N ps:List Str} {qual:Str} {scope:Scope} {f:Rm} {cd:QN} {A:RH} {s s1:QP} {g:G} {L:aa}
theorem mE {us:List QN} {xs:List T} (S:jJ N ps scope) (hd:A.handled=none) (e0:uj P w K mg cls base s g L) (hl:xs.length=ps.length) (r:bM g xs us)
  (x:InCallC s s.heap.objs.size (bindL (envOfC qual scope s.heap.objs.size f cd).kindOf (ps.zip us) fun _=>none) (cellsFrom (s.heap.objs.size+1) scope.names []) (bindC (envOfC qual scope s.heap.objs.size f cd).kindOf (ps.zip us) fun _=>none) s1) :
  Inv (vZ P w K mg cls base N qual scope f cd A s g.H) [] (xs.map some++Q7 (N.length - ps.length) none) g L s1:=by
 have hpl:ps.length<=N.length:=by have:=congrArg Th S.pre;rw [Sw] at this;omega
 obtain⟨h1,tk,rfl,hk⟩:=x.done;refine⟨⟨e0.mod,S.kind,rfl,rfl,Q3 _,fun y z c h1 h2=>?_,fun y hy=>?_,fun y c _ h=>?_,hd,fun b z=>absurd z (by simp [vZ]),e0.bs,e0.Fs,fun b _ _=>by simp [vZ]⟩,
  rfl,e0.bare,Un.kept hk,⟨_,x.toInCall.ns,fun i y v h1 h2 h3=>?_⟩,fun y c h=>⟨_,x.cell y c h⟩,e0.hok.fresh (Q3 _),fun y c h=>?_,fun p hp=>(by simp at hp),fun a b o e=>hk a o (e0.hok a b o e),?_,e0.rel,e0.gB,e0.gm,e0.gw⟩
 ·exact name_of_addr x.apart (RD h1) (RD h2)
 ·have hy:scope.names.lookup y=some .cell\/scope.names.lookup y=some .free:=hy
  rcases hy with hy|hy
  ·exact oV hy
  ·exact absurd rfl (S.qV _ (RD hy))
 ·exact UK (x.above y c (RD h))
 ·have hi:i<xs.length:=by
   by_cases hi:i<xs.length
   ·exact hi
   ·rw [List.getElem?_append_right (by simpa using hi),List.getElem?_replicate] at h2
    split at h2 <;> cases h2
  have ha:xs[i]?=some v:=by
   rw [List.getElem?_append_left (by simpa using hi),Rd] at h2;cases e:xs[i]? with
   | none=>rw [e] at h2;cases h2
   | some a=>rw [e] at h2;cases h2;rfl
  obtain⟨u,hu,rv⟩:=qJ r ha;have hp:ps[i]?=some y:=by
   rw [<- S.pre,List.getElem?_take_of_lt (by omega)];exact h1
  have Ms:ps.Nodup:=by rw [<- S.pre];exact S.nd.sublist (List.take_sublist _ _)
  refine⟨u,rv,?_⟩;rcases S.par y (RM hp) with k|k
  ·exact .inl ⟨k,mC Ms hp hu k⟩
  ·obtain⟨c,e⟩:=oV (n:=s.heap.objs.size+1) k
   refine .inr ⟨.inl k,c,e,?_⟩;have q:=x.cell y c e
   rw [mD Ms hp hu (by show scope.names.lookup y≠_;rw [k];decide)] at q;exact q
 ·exact e0.hok.fresh (UK (x.above y c (RD h)))
 ·show _=N.length
  rw [QT,Lm9,Ub];omega
theorem v5 {g1:G} {L1 Lo:aa} {s':QP} {t t':T} {u:QN} (e0:uj P w K mg cls base s g L) (os:s'.os=s.os) (bare:AllBare s'.gens) (un:Un [] g.H g1.H s.heap s'.heap) (hok:yW g1.H s'.heap) (l:Le g g1) (rel:Rel g1 L1) (r:RT g1 none t u) (e:fin L t L1=.ok t' Lo):CE g s t' Lo u s':=by
 obtain⟨g2,l2,r2,h2,a,b,c⟩:=Di l e0.rel rel r e;exact⟨g2,os,bare,⟨un.keep,fun x o q n z=>b x (un.free x o q n z),fun x o q=>c x o (un.bZ x o q)⟩,fun x y o q=>let ⟨_,z⟩:=a x y o q;hok x _ o z,l2,r2,h2⟩
theorem Gb {k:Nat} {name:Str} {params:Arguments} {body:List Stmt} {dV kV doc pm fq ct oc:QN} {an od:Option Rm} {qy:Array (Option QN)} {mb:SS} (lk:K.lookup f=some ⟨oc,od,.func (S0 name qual params body scope dV kV doc pm an fq ct),qy⟩) (hcd:TY K fq qual=true) (S:jJ N ps scope)
  (v7:∀us:List QN,us.length=ps.length->bindArgs (S0 name qual params body scope dV kV doc pm an fq ct) ⟨us,[]⟩=pure (ps.zip us))
  (iD:∀(A:RH) (s:QP) (H:Hp),dS k (A.deeper (envOfC qual scope s.heap.objs.size f fq))->vD (vZ P w K mg cls base N qual scope f fq A s H) body mb) :
  dT P w K mg cls base (k+1) f (run ps.length N.length mb):=fun {A s g L L' us xs t} hr e0 r lV=>by
 unfold run at lV;split at lV
 ·rename_i hl
  have Jz:us.length=ps.length:=by rw [<- Q0 r];exact hl
  have KX:K.In s.heap:=e0.mod.Fq.keeps fun b o e=>(e0.bs b o e).1
  have lim:s.heap.NoLimit:=e0.mod.nolimit.keeps fun b o e=>(e0.bs b o e).1
  have hkind:∀y∈ps.zip us,scope.names.lookup y.1=some .local\/(scope.names.lookup y.1=some .cell/\((cellsFrom (s.heap.objs.size+1) scope.names []).lookup y.1).isSome=true):=fun⟨n,v⟩ hy=>by
   rcases S.par n (UR hy).1 with q|q
   ·exact .inl q
   ·exact .inr ⟨q,U3 _ _ _ (.inl q)⟩
  refine codeAny_call_function hr.depth (KX _ _ lk) rfl S.co S.gen rfl (Xn KX hcd) (BindsTo.of_eq (v7 us Jz) _ _ _ _ ?_);refine wpAny_newFunctionEnv_cells S.kind hkind fun env he s1 x=>?_
  subst he;refine⟨lim.keeps x.toInCall.keep,codeAny_func ?_⟩;have I:=mE (A:=A) (cd:=fq) S hr.hd e0 hl r x
  have nb:mb (xs.map some++Q7 (N.length - ps.length) none) L≠.bad:=fun z=>by rw [z] at lV;cases lV
  refine wpAny_mono (iD A s g.H (hr.deeper _) I nb) (fun fl s' ⟨g',l,hs⟩=>?_) fun e s' hs=>hs.elim
  cases eb:mb (xs.map some++Q7 (N.length - ps.length) none) L with
  | nx φ' L1 =>
   rw [eb] at hs lV;cases fl <;> first|exact hs.elim|exact v5 e0 hs.os hs.bare hs.base hs.hok l hs.rel .bj lV
  | rt t0 L1 =>
   rw [eb] at hs lV;cases fl <;> first|exact hs.elim|skip
   obtain⟨⟨φ',J⟩,rt⟩:=hs;exact v5 e0 J.os J.bare J.base J.hok l J.rel rt lV
  | _=>rw [eb] at lV;cases lV
 ·cases lV
structure Mk (K:Ro) (C f:Rm):Prop where
 makes:Vv K C=true
 init:R8 K (.ref C) "__init__"=some (some (.ref f))
 fn:UM K (.ref f)=true
 kp:Si K (.ref C)=true
theorem Gd {k:Nat} {C:Rm} {cn:Str} {init:Fn} (M:Mk K C f) (hF:dT P w K mg cls base k f init) (hc:cls cn=some C):dT P w K mg cls base (k+1) C (make cn init):=fun {A s g L L' us xs t} hr e0 r h=>by
 have KX:K.In s.heap:=e0.mod.Fq.keeps fun b o e=>(e0.bs b o e).1
 refine vX KX M.makes M.init (beq_iff_eq.mp M.fn) ?_;generalize hn:s.heap.objs.size=n;have fr:∀a,n<=a->g.H a=none:=fun a ha=>e0.hok.fresh (by rw [hn];exact ha)
 have e1:(s.heap.push R5).get? n=some R5:=by rw [<- hn];exact QM s.heap rfl
 have e2:((s.heap.push R5).push (R3 C n)).get? (n+1)=some (R3 C n):=by
  have:=QM (s.heap.push R5) (o:=R3 C n) rfl;rwa [R1,hn] at this
 have e1':((s.heap.push R5).push (R3 C n)).get? n=some R5:=QK _ e1;have kp:∀b o,s.heap.get? b=some o->((s.heap.push R5).push (R3 C n)).get? b=some o:=fun b o q=>QK _ (QK _ q)
 have fj:∀b o,s.heap.get? b=some o->b<n:=fun b o q=>by rw [<- hn];exact Q1 q
 let g1:G:={ g with H:=upd (upd g.H n (false,R5)) (n+1) (false,R3 C n),α:=(n+1,n)::g.α }
 have old:∀b,b<n->g1.H b=g.H b:=fun b hb=>(au (um (by omega))).trans (au (um (by omega)))
 have tr:∀b x,g.H b=some x->b<n:=fun b x q=>fj b x.2 (e0.hok b x.1 x.2 q)
 have h1:g1.H n=some (false,R5):=(au (um (by omega))).trans aj;have h2:g1.H (n+1)=some (false,R3 C n):=aj
 have l1:Le g g1:=⟨fun b o q=>(old b (tr b _ q)).trans q,fun _ _ q=>ip q,rfl,rfl,rfl⟩;have alt:∀m q,at_ g.α m=some q->q.1<n/\q.2<n:=fun m q e=>by
  obtain⟨⟨o1,z1⟩,o2,z2⟩:=e0.rel.live m q e;exact⟨tr _ _ z1,tr _ _ z2⟩
 have ob:RT g1 (some (n+1,n)) (.obj cn []) (.ref (n+1)):=.obj (od:=R5) (es:=#[]) (n:=0) (.inr rfl) (um (by omega)) (by show g.cls cn=_;rw [e0.gm];exact hc) (.inl h2) (.inl h1) rfl (fun e he=>absurd he (by simp)) (by simp [UniqKeys]) (by simp) (by simp) (fun f=>rfl) fun f x v q=>by simp at q
 have JA:Rel g1 (.obj cn []::L):=by
  refine⟨by show((n+1,n)::g.α).length=_;simp [e0.rel.len],fun m c q=>?_,fun m m' p q q1 q2 hne=>?_,fun m p q=>?_⟩
  ·unfold at_ at q
   split at q
   ·rename_i em
    cases q;exact⟨(n+1,n),by rw [em,<- e0.rel.len];exact cT,ob⟩
   ·obtain⟨p,z1,z2⟩:=e0.rel.cells m c q
    refine⟨p,ip z1,z2.up l1 fun q z=>?_⟩;cases z;exact⟨old _ (alt m p z1).1,old _ (alt m p z1).2⟩
  ·have q1:at_ ((n+1,n)::g.α) m=some p:=q1
   have q2:at_ ((n+1,n)::g.α) m'=some q:=q2
   unfold at_ at q1 q2
   split at q1
   ·cases q1
    split at q2
    ·omega
    ·have z:=alt m' q q2;exact⟨um (.inr (Sh z.1)),um (.inr (Sh z.2)),um (.inr z.1),um (.inr z.2)⟩
   ·split at q2
    ·cases q2
     have z:=alt m p q1;exact⟨um (.inl (Sh z.1)),um (.inl z.1),um (.inl (Sh z.2)),um (.inl z.2)⟩
    ·exact e0.rel.apart m m' p q q1 q2 hne
  ·have q:at_ ((n+1,n)::g.α) m=some p:=q
   unfold at_ at q
   split at q
   ·cases q;exact⟨⟨_,h2⟩,_,h1⟩
   ·obtain⟨⟨o1,z1⟩,o2,z2⟩:=e0.rel.live m p q
    have z:=alt m p q;exact⟨⟨o1,(old _ z.1).trans z1⟩,o2,(old _ z.2).trans z2⟩
 have N7:uj P w K mg cls base { s with heap:=(s.heap.push R5).push (R3 C n) } g1 (.obj cn []::L):=by
  refine⟨e0.mod,fun b o q=>⟨kp b o (e0.bs b o q).1,(old b (fj b o (e0.bs b o q).1)).trans (e0.bs b o q).2⟩,?_,fun a b o q=>?_,e0.bare,JA,e0.gB,e0.gm,e0.gw⟩
  ·show _<=((s.heap.push _).push _).objs.size
   rw [R1,R1];have:=e0.Fs;omega
  ·by_cases z1:a=n+1
   ·subst z1;rw [h2] at q;cases q;exact e2
   ·by_cases z2:a=n
    ·subst z2;rw [h1] at q;cases q;exact e1'
    ·have q:g.H a=some (b,o):=by rw [<- q];exact((au z1).trans (au z2)).symm
     exact kp a o (e0.hok a b o q)
 unfold make at h;cases ei:init (.ref L.length::xs) (.obj cn []::L) with
 | bad=>rw [ei] at h;cases h
 | ok t0 L1 =>
  rw [ei] at h;cases t0 with
  | bj =>
   have r1:bM g1 (.ref L.length::xs) (.ref (n+1)::us):=.cons (.ref (p:=(n+1,n)) (by show at_ ((n+1,n)::g.α) _=_;rw [<- e0.rel.len];exact cT)) (r.le l1);refine codeAny_mono (hF (hr.make C us []) N7 r1 ei) fun r s' hq=>?_
   cases r with
   | error e=>exact V3 hq
   | ok fl =>
    cases fl with
    | ret u =>
     obtain⟨g2,os,bare,un,hok,l2,JB,r2⟩:=hq;cases r2;refine⟨rfl,?_⟩;have N8:Un [] g.H g2.H s.heap s'.heap:=⟨fun b o q z x=>un.keep b o (kp b o q) ((old b (fj b o q)).trans z) x,fun b o q z x=>un.free b o (kp b o q) ((old b (fj b o q)).trans z) x,fun b o q=>un.bZ b o (l1.f b o q)⟩
     have ra:RT g2 none (.ref L.length) (.ref (n+1)):=.ref (p:=(n+1,n)) (l2.α _ _ (by show at_ ((n+1,n)::g.α) _=_;rw [<- e0.rel.len];exact cT));exact v5 e0 os bare N8 hok (l1.trans l2) JB ra h
    | _=>exact V3 hq
  | _=>cases h
end
section
variable {X:Cx} {pins:aJ} {φ:Fr} {g:G} {L:aa} {s:QP}
theorem str_beq {a b:Cs}:((⟨a.toArray⟩:Str) == ⟨b.toArray⟩)=(a == b):=by
 rw [R6,beq_iff_eq,beq_iff_eq];constructor
 ·intro h
  have:=congrArg (fun x:Str=>x.cps.toList) h;simpa using this
 ·rintro rfl;rfl
theorem eR {f:T->T->Bool}:∀(a b:List T),((RV (min a.length b.length)).all (fun i=>f (a.getD i .bj) (b.getD i .bj)) && a.length == b.length)=jx f a b
 | [],[]=>rfl
 | [],b::q=>by simp [jx]
 | a::r,[]=>by simp [jx]
 | a::r,b::q=>by
  rw [jx,<- eR r q];have e:min (a::r).length (b::q).length=min r.length q.length+1:=by simp only [QX];omega
  rw [e,WA,R0,Xy];have e2:((a::r).length == (b::q).length)=(r.length == q.length):=by simp
  rw [e2,Bool.and_assoc];rfl
theorem nv {n:Nat} {xs:List T} (h:xs.all (dat n)=true) {i:Nat} (hi:i<xs.length):dat n (xs.getD i .bj)=true:=by
 rw [Gd9,Ge9 hi];exact QO.mp h _ (Q6 hi)
theorem getD_at {xs:List T} {i:Nat} (hi:i<xs.length):xs[i]?=some (xs.getD i .bj):=by
 rw [Gd9,Ge9 hi];rfl
theorem iE {f:T->T->Bool}:∀{xs:List T},(∀x∈xs,f x x=true)->jx f xs xs=true
 | [],_=>rfl
 | x::xs,h=>by rw [jx,h x QR,iE fun y hy=>h y (QV _ hy)];rfl
theorem Dk {a:T} (h:dat 0 a=true):False:=by cases a <;> cases h
theorem j8:∀(n:Nat) {a:T},dat n a=true->qD n a a=true
 | 0,a,h=>(Dk h).elim
 | n+1,a,h=>by
  cases a with
  | bj=>rfl
  | bl k=>exact beq_self_eq_true k
  | int i=>exact beq_self_eq_true i
  | str z=>exact beq_self_eq_true z
  | tup xs=>exact iE fun x hx=>j8 n (QO.mp h x hx)
  | lst xs=>exact iE fun x hx=>j8 n (QO.mp h x hx)
  | _=>cases h
noncomputable def It (g:G) (n:Nat) (xs:List T) (its:Array QN):Prop:=xs.all (dat n)=true/\xs.length=its.size/\∀(i:Nat) x v,xs[i]?=some x->its[i]?=some v->RT g none x v
theorem Inv.dv (I:Inv X pins φ g L s) {n:Nat} {p:Option (Rm × Rm)} {P:T->QN->Prop} (c1:P .bj .none) (c2:∀b,P (.bl b) (.bool b)) (c3:∀i t,P (.int i) (.int i t)) (c4:∀z t,P (.str z) (.str ⟨z.toArray⟩ t))
  (c5:∀xs a its,s.heap.IsTuple a its->It g n xs its->P (.tup xs) (.ref a)) (c6:∀xs a its,s.heap.IsList a its->It g n xs its->P (.lst xs) (.ref a)) {a:T} {u:QN} (h:dat (n+1) a=true) (r:RT g p a u):P a u:=by
 cases r with
 | bj=>exact c1
 | bl b=>exact c2 b
 | int i t=>exact c3 i t
 | str z t _=>exact c4 z t
 | tup hk hc hd _ hl hi=>exact c5 _ _ _ ⟨_,I.kn hk,hc.1,_,hd⟩ ⟨h,hl,hi⟩
 | lst _ hk _ hl hi=>exact c6 _ _ _ (ae (I.kn hk)) ⟨h,hl,hi⟩
 | _=>cases h
noncomputable def tO:QN->Option T
 | .none=>some .bj
 | .bool b=>some (.bl b)
 | .int i _=>some (.int i)
 | .str z _=>some (.str z.cps.toList)
 | _=>none
noncomputable def Sq (s:QP) (k:Bool) (a:Rm) (its:Array QN):Prop:=∃o,s.heap.get? a=some o/\o.cls=.type (if k=true then "tuple" else "list")/\∃n,o.data=.seq its n
theorem Sq.eq {k j:Bool} {a:Rm} {x y:Array QN} (h:Sq s k a x) (h':Sq s j a y):k=j/\x=y:=by
 obtain⟨o,e,c,m,d⟩:=h;obtain⟨_,e',c',m',d'⟩:=h';cases SF (e.symm.trans e');refine⟨?_,(Data.seq.inj (d.symm.trans d')).1⟩;have z:=c.symm.trans c'
 clear c c'
 revert k j
 decide
theorem Inv.uniq (I:Inv X pins φ g L s):∀(n:Nat) {p q:Option (Rm × Rm)} {a b:T} {u:QN},dat n a=true->dat n b=true->RT g p a u->RT g q b u->a=b
 | 0,_,_,a,_,_,h,_,_,_=>(Dk h).elim
 | n+1,_,_,_,_,_,ha,hb,ra,rb=>by
  have key:∀{p a u},dat (n+1) a=true->RT g p a u->tO u=some a\/∃k d its xs,u=.ref d/\Sq s k d its/\It g n xs its/\a=if k=true then .tup xs else .lst xs:=fun h r =>
   I.dv (P:=fun a u=>tO u=some a\/∃k d its xs,u=.ref d/\Sq s k d its/\It g n xs its/\a=if k=true then .tup xs else .lst xs) (.inl rfl) (fun _=>.inl rfl) (fun _ _=>.inl rfl) (fun _ _=>.inl rfl)
    (fun xs a its h j=>.inr ⟨true,a,its,xs,rfl,h,j,rfl⟩) (fun xs a its h j=>.inr ⟨false,a,its,xs,rfl,h,j,rfl⟩) h r
  rcases key ha ra with h|⟨k,d,its,xs,rfl,hk,i,rfl⟩
  ·rcases key hb rb with h'|⟨_,_,_,_,rfl,_⟩
   ·exact SF (h.symm.trans h')
   ·cases h
  ·rcases key hb rb with h'|⟨j,_,N9,ys,z,hj,i',rfl⟩
   ·cases h'
   ·cases Value.ref.inj z
    obtain⟨rfl,rfl⟩:=hk.eq hj;rw [show xs=ys from Sx (i.2.1.trans i'.2.1.symm) fun m hi hj=>I.uniq n (QO.mp i.1 _ (Q6 hi)) (QO.mp i'.1 _ (Q6 hj)) (i.2.2 m _ _ (Ge9 hi) (QU (i.2.1 ▸ hi))) (i'.2.2 m _ _ (Ge9 hj) (QU (i.2.1 ▸ hi)))]
theorem both {A:RH} {a b:Rm} {k:Bool} (h:SeqAt.RcAt A s (.ref a) (.ref b) k) (he:a=b->k=true):SeqAt.RcAt A s (.ref a) (.ref b) k/\S5 A s (.ref a) (.ref b) k:=⟨h,by
 by_cases e:a=b
 ·subst e;rw [he rfl];exact SeqAt.EqAt.same _
 ·exact SeqAt.EqAt.of_refs e h⟩
theorem It.eq (I:Inv X pins φ g L s) {n:Nat} {xs ys:List T} {its:Array QN} (i:It g n xs its) (j:It g n ys its):jx (qD n) xs ys=true:=by
 rw [show ys=xs from Sx (j.2.1.trans i.2.1.symm) fun m hj hi=>I.uniq n (QO.mp j.1 _ (Q6 hj)) (QO.mp i.1 _ (Q6 hi)) (j.2.2 m _ _ (Ge9 hj) (QU (i.2.1 ▸ hi))) (i.2.2 m _ _ (Ge9 hi) (QU (i.2.1 ▸ hi)))];exact iE fun x hx=>j8 n (QO.mp i.1 x hx)
abbrev Rq (A:RH) (s:QP) (n:Nat) (a:T) (u:QN) (b:T) (v:QN):Prop:=SeqAt.RcAt A s u v (qD n a b)/\S5 A s u v (qD n a b)
open SeqAt in
theorem Inv.rc (I:Inv X pins φ g L s):∀(n:Nat) {A:RH} {p q:Option (Rm × Rm)} {a b:T} {u v:QN},dat n a=true->dat n b=true->A.units+n<cLine->RT g p a u->RT g q b v->Rq A s n a u b v
 | 0,_,_,_,a,_,_,_,h,_,_,_,_=>(Dk h).elim
 | n+1,A,_,_,a,b,u,v,ha,hb,hn,ra,rb=>by
  have hu:A.units<cLine:=by omega
  have it:∀{xs ys:List T} {x y:Array QN},It g n xs x->It g n ys y->∀j (h1:j<x.size) (h2:j<y.size),EqAt A.in1 s x[j] y[j] (qD n (xs.getD j .bj) (ys.getD j .bj)):=fun i k j h1 h2 =>
   (I.rc n (nv i.1 (i.2.1 ▸ h1)) (nv k.1 (k.2.1 ▸ h2)) (by show A.units+1+n<cLine;omega) (i.2.2 j _ _ (getD_at (i.2.1 ▸ h1)) (QU h1)) (k.2.2 j _ _ (getD_at (k.2.1 ▸ h2)) (QU h2))).2
  refine I.dv (P:=fun a u=>Rq A s (n+1) a u b v) ?_ ?_ ?_ ?_ ?_ ?_ ha ra
  ·exact I.dv (P:=Rq A s (n+1) .bj .none) ⟨.none_none,.same _⟩ (fun _=>⟨.none_bool _,.none_bool _⟩) (fun _ _=>⟨.none_int _ _,.none_int _ _⟩) (fun _ _=>⟨.none_str _ _,.none_str _ _⟩) (fun _ _ _ h _=>⟨.none_tuple h hu,.none_tuple h hu⟩) (fun _ _ _ h _=>⟨.none_list h hu,.none_list h hu⟩) hb rb
  ·exact fun _=>I.dv (P:=Rq A s (n+1) (.bl _) (.bool _)) ⟨.bool_none _,.bool_none _⟩ (fun _=>⟨.bool_bool _ _,.bool_bool _ _⟩) (fun _ _=>⟨.bool_int _ _ _,.bool_int _ _ _⟩) (fun _ _=>⟨.bool_str _ _ _,.bool_str _ _ _⟩) (fun _ _ _ h _=>⟨.bool_tuple _ h hu,.bool_tuple _ h hu⟩) (fun _ _ _ h _=>⟨.bool_list _ h hu,.bool_list _ h hu⟩) hb rb
  ·exact fun _ _=>I.dv (P:=Rq A s (n+1) (.int _) (.int _ _)) ⟨.int_none _ _,.int_none _ _⟩ (fun _=>⟨.int_bool _ _ _,.int_bool _ _ _⟩) (fun _ _=>⟨.int_int _ _ _ _,.int_int _ _ _ _⟩) (fun _ _=>⟨.int_str _ _ _ _,.int_str _ _ _ _⟩) (fun _ _ _ h _=>⟨.int_tuple _ _ h hu,.int_tuple _ _ h hu⟩) (fun _ _ _ h _=>⟨.int_list _ _ h hu,.int_list _ _ h hu⟩) hb rb
  ·exact fun z _=>I.dv (P:=Rq A s (n+1) (.str z) (.str ⟨z.toArray⟩ _)) ⟨.str_none _ _,.str_none _ _⟩ (fun _=>⟨.str_bool _ _ _,.str_bool _ _ _⟩) (fun _ _=>⟨.str_int _ _ _ _,.str_int _ _ _ _⟩) (fun z2 _=>by
    show RcAt A s _ _ (z == z2)/\EqAt A s _ _ (z == z2);rw [<- str_beq];exact⟨.str_str _ _ _ _,.str_str _ _ _ _⟩) (fun _ _ _ h _=>⟨.str_tuple _ _ h hu,.str_tuple _ _ h hu⟩) (fun _ _ _ h _=>⟨.str_list _ _ h hu,.str_list _ _ h hu⟩) hb rb
  ·exact fun xs d x T1 i=>I.dv (P:=Rq A s (n+1) (.tup xs) (.ref d)) ⟨.tuple_none T1 hu,.tuple_none T1 hu⟩ (fun _=>⟨.tuple_bool _ T1 hu,.tuple_bool _ T1 hu⟩) (fun _ _=>⟨.tuple_int _ _ T1 hu,.tuple_int _ _ T1 hu⟩) (fun _ _=>⟨.tuple_str _ _ T1 hu,.tuple_str _ _ T1 hu⟩) (fun ys b y T2 k=>by
    have:=RcAt.tuples T1 T2 hu (it i k);rw [<- i.2.1,<- k.2.1,eR] at this;refine both this fun e=>?_
    subst e;cases (Sq.eq (k:=true) (j:=true) T1 T2).2;exact i.eq I k) (fun _ _ _ h _=>⟨.tuple_list T1 h hu,.tuple_list T1 h hu⟩) hb rb
  ·exact fun xs d x T1 i=>I.dv (P:=Rq A s (n+1) (.lst xs) (.ref d)) ⟨.list_none T1 hu,.list_none T1 hu⟩ (fun _=>⟨.list_bool _ T1 hu,.list_bool _ T1 hu⟩) (fun _ _=>⟨.list_int _ _ T1 hu,.list_int _ _ T1 hu⟩) (fun _ _=>⟨.list_str _ _ T1 hu,.list_str _ _ T1 hu⟩) (fun _ _ _ h _=>⟨.list_tuple T1 h hu,.list_tuple T1 h hu⟩) (fun ys b y T2 k=>by
    refine both ?_ fun e=>?_
    ·show RcAt A s _ _ (jx (qD n) xs ys)
     rw [<- eR,i.2.1,k.2.1];by_cases hs:x.size=y.size
     ·have:=RcAt.lists T1 T2 hs hu (it i k)
      rw [<- hs];simpa using this
     ·rw [show(x.size == y.size)=false by simpa using hs,UB];exact RcAt.lists_lengths T1 T2 (by simpa using hs) hu
    ·subst e
     cases (Sq.eq (k:=false) (j:=false) T1 T2).2;exact i.eq I k) hb rb
end
section
variable {X:Cx} {pins:aJ} {φ:Fr} {g:G} {L:aa} {s:QP} {xs ys:List T} {us vs:List QN}
theorem bM.app (h:bM g xs us) (h2:bM g ys vs):bM g (xs++ys) (us++vs):=by
 induction h with
 | nil=>exact h2
 | cons a _ ih=>exact .cons a ih
theorem v8 {w:T} {t':Nat} {h':Heap} {n:Nat} (I:Inv X pins φ g L s) (r:bM g xs us) (hz:xs.length<=Q9) (k:∀b u,s.heap.get? b=some u->h'.get? b=some u) {a:Rm} (ha:s.heap.objs.size<=a) (new:h'.get? a=some { cls:=.type "tuple",data:=.seq us.toArray n }) :
  EP X pins φ g (.tup xs) L (.ref a) { s with heap:=h',toks:=t' } :=
 have f:=I.hok.fresh ha
 ⟨_,Le.lay f,I.laid k ha new,r.tup (Le.lay f) (.inl aj) ⟨rfl,rfl⟩ rfl hz⟩
theorem mF (c:Nat):∀(k:Nat) (a:Array Nat),(Q7 k (#[c]:Array Nat)).foldl (fun x1 x2=>x1++x2) a=a++(Q7 k c).toArray
 | 0,a=>by simp
 | k+1,a=>by
  rw [Xd,US,mF c k,Xd];apply Array.ext';simp
theorem Dl {fz:Bool} {op:Operator} {x y w:T} {L':aa} (h:aH fz op x y L=.ok w L'):(∃i j,vw L x=.int i/\vw L y=.int j/\oI op i j L=.ok w L')\/(∃a b,vw L x=.str a/\vw L y=.str b/\op=.Add/\a.length+b.length<=lim/\w=.str (a++b)/\L'=L)\/(∃ch j,vw L x=.str [ch]/\vw L y=.int j/\op=.Mult/\qF j/\w=.str (Q7 j.toNat ch)/\L'=L)\/∃a b,vw L x=.lst a/\vw L y=.lst b/\op=.Add/\fk fz (a++b) L=.ok w L':=by
 unfold aH at h;generalize vw L x=p at h ⊢;generalize vw L y=q at h ⊢;split at h
 ·split at h
  ·exact .inl ⟨_,_,rfl,rfl,h⟩
  ·cases h
 ·unfold oS at h
  split at h
  ·split at h
   ·obtain⟨c,h⟩:=ak h;cases h;exact .inr (.inl ⟨_,_,rfl,rfl,rfl,c,rfl,rfl⟩)
   ·cases h
  ·split at h
   ·split at h
    ·obtain⟨c,h⟩:=ak h;cases h;exact .inr (.inr (.inl ⟨_,_,rfl,rfl,rfl,c,rfl,rfl⟩))
    ·cases h
   ·cases h
  ·cases h
 ·split at h
  ·split at h
   ·exact .inr (.inr (.inr ⟨_,_,rfl,rfl,rfl,h⟩))
   ·cases h
  ·cases h
 ·cases h
theorem Dm {op:Operator} {i j:Int} {t t':Nat} {w:T} {L':aa} (I:Inv X pins φ g L s) (h:oI op i j L=.ok w L'):QZ (model X.prog X.w) X.A (binaryOp op (.int i t) (.int j t')) (EP X pins φ g w L') F0 s:=by
 cases op with
 | Add =>
  cases h;exact add_int ((I.tok _).ep (.int _ _))
 | Sub =>
  cases h;exact sub_int ((I.tok _).ep (.int _ _))
 | Mult =>
  obtain⟨hc,h⟩:=ak h;cases h;refine mul_int ((I.tok _).ep (.int _ _)) ?_;rcases hc with⟨h1,h2⟩|⟨h1,h2⟩
  ·exact .of_left (intBits_le_64 h1 h2)
  ·exact .of_right (intBits_le_64 h1 h2)
 | FloorDiv =>
  obtain⟨hc,h⟩:=ak h;cases h;unfold vA at hc;exact floordiv_int (by omega) (by rw [Int.fdiv_eq_ediv_of_nonneg i (by omega)];exact(I.tok _).ep (.int _ _)) (.inl (PyProof.noPylong_small (by omega)))
 | Mod =>
  obtain⟨hc,h⟩:=ak h;cases h;exact mod_int' (by omega) (by rw [Int.fmod_eq_emod_of_nonneg i (by omega)];exact(I.tok _).ep (.int _ _))
 | Pow =>
  obtain⟨hc,h⟩:=ak h;cases h;exact pow_int_small hc.1 hc.2.1 hc.2.2 ((I.tok _).ep (.int _ _))
 | _ =>
  cases h
theorem Dp {c:Nat} {n:Int} {t t':Nat} (I:Inv X pins φ g L s) (hc:qF n):QZ (model X.prog X.w) X.A (binaryOp .Mult (.str ⟨[c].toArray⟩ t) (.int n t')) (EP X pins φ g (.str (Q7 n.toNat c)) L) F0 s:=by
 unfold qF at hc;have hl:(⟨[c].toArray⟩:Str).length=1:=rfl
 refine PySem.P.mul_str ?_ (fun a b=>?_) (fun a b=>?_) ?_
 ·have z1:¬ n < -(2 ^ 63:Int):=by omega
  have z2:¬ n≥2 ^ 63:=by omega
  rw [decide_eq_false z1,decide_eq_false z2];rfl
 ·rw [hl]
  have:(1:Int)<=(2 ^ 63 - 1) / n:=by
   rw [Int.le_ediv_iff_mul_le (by omega)];omega
  omega
 ·rw [hl]
  have e:(2:Nat) ^ 24=16777216:=by decide
  unfold Builtin.Str.tooLong Q9;exact decide_eq_false (by omega)
 ·by_cases a:n<1
  ·rw [if_pos a]
   refine⟨by decide,(I.tok _).ep ?_⟩;have e:n.toNat=0:=by omega
   rw [e];exact .str [] _ (by decide)
  ·rw [if_neg a]
   by_cases b:(n == 1 || (⟨[c].toArray⟩:Str).length == 0)=true
   ·rw [if_pos b]
    have e1:n=1:=by rw [hl] at b;simpa using b
    subst e1;exact I.ep (.str [c] _ (by show 1<=Q9;decide))
   ·rw [if_neg b]
    have e:(⟨(Q7 n.toNat (⟨[c].toArray⟩:Str).cps).foldl (· ++ ·) #[]⟩:Str)=⟨(Q7 n.toNat c).toArray⟩:=by
     show(⟨(Q7 n.toNat (#[c]:Array Nat)).foldl (fun x1 x2=>x1++x2) #[]⟩:Str)=_;rw [mF];simp
    rw [e];have z:(Q7 n.toNat c).length<=Q9:=by rw [Sr];simp;omega
    exact⟨by show(Q7 n.toNat c).toArray.size<=_;simpa using z,(I.tok _).ep (.str _ _ z)⟩
theorem Dq {fz:Bool} {op:Operator}:vE X (binaryOp op) (aH fz op):=fun {pins φ g L s x y w L' u v} I rx ry h=>by
 obtain⟨p,vx⟩:=I.view rx;obtain⟨q,vy⟩:=I.view ry;rcases Dl h with⟨i,j,e,e',h⟩|⟨a,b,e,e',rfl,hc,rfl,rfl⟩|⟨c,n,e,e',rfl,hc,rfl,rfl⟩|⟨_,_,e,e',rfl,hm⟩ <;> rw [e] at vx <;> rw [e'] at vy
 ·obtain⟨_,rfl⟩:=vx.iI;obtain⟨_,rfl⟩:=vy.iI;exact Dm I h
 ·obtain⟨_,rfl⟩:=vx.sI;obtain⟨_,rfl⟩:=vy.sI
  have e:(⟨a.toArray⟩:Str)++(⟨b.toArray⟩:Str)=⟨(a++b).toArray⟩:=by
   show(⟨a.toArray++b.toArray⟩:Str)=_;simp
  refine add_str (fun t' tk=>(I.tok _).ep ?_) (by show a.toArray.size+b.toArray.size<=_;simpa using (show a.length+b.length<=Q9 from hc));rw [e];exact .str _ _ (by simpa using (show a.length+b.length<=Q9 from hc))
 ·obtain⟨_,rfl⟩:=vx.sI;obtain⟨_,rfl⟩:=vy.iI;exact Dp I hc
 ·obtain⟨a,i1,n1,rfl,e1,r1,z1⟩:=I.lst vx
  obtain⟨b,i2,n2,rfl,e2,r2,z2⟩:=I.lst vy;have hz:=nf hm
  have l1:=Q0 r1;have l2:=Q0 r2
  refine PySem.P.add_list e1 e2 ?_ (by simp at hz l1 l2;omega);have ea:i1++i2=(i1.toList++i2.toList).toArray:=by simp
  rw [ea];exact g9 (t':=s.toks) I (r1.app r2) hm (fun b u e=>QK _ e) (QM _ rfl)
theorem Dr {x y:T} {k:Bool} {L':aa} (h:sx x y L=.ok k L'):dat 8 (vw L x)=true/\dat 8 (vw L y)=true/\k=eqT (vw L x) (vw L y)/\L'=L:=by
 obtain⟨⟨a,b⟩,h⟩:=ak h;cases h;exact⟨a,b,rfl,rfl⟩
theorem ny {A:RH} {x:T} {v:QN} (I:Inv X pins φ g L s) (hu:A.units+8<cLine) (hx:dat 8 x=true) (rx:RT g none x v) (hy:ys.all (dat 8)=true) (r:bM g ys us):∃e:QN->Bool,(∀w∈us,S5 A s w v (e w))/\(us.any e=ys.any fun y=>eqT y x)/\∀(i:Nat) y w,ys[i]?=some y->us[i]?=some w->e w=eqT y x:=by
 classical
 have uq:∀(i j:Nat) y z w,ys[i]?=some y->us[i]?=some w->ys[j]?=some z->us[j]?=some w->y=z:=fun i j y z w h1 h2 h3 h4 =>
  I.uniq 8 (QO.mp hy y (RM h1)) (QO.mp hy z (RM h3)) (qI r i y w h1 h2) (qI r j z w h3 h4)
 have hl:=Q0 r
 let e:QN->Bool:=fun w=>decide (∃(i:Nat) (y:T),ys[i]?=some y/\us[i]?=some w/\eqT y x=true)
 have ev:∀(i:Nat) y w,ys[i]?=some y->us[i]?=some w->e w=eqT y x:=fun i y w h1 h2=>by
  cases q:eqT y x with
  | true=>exact decide_eq_true ⟨i,y,h1,h2,q⟩
  | false =>
   refine decide_eq_false ?_;rintro⟨j,z,h3,h4,h5⟩;rw [<- uq i j y z w h1 h2 h3 h4,q] at h5;cases h5
 refine⟨e,fun w hw=>?_,?_,ev⟩
 ·obtain⟨i,hi,rfl⟩:=SQ hw
  have e1:=Ge9 (l:=ys) (i:=i) (by omega);have e2:=Ge9 (l:=us) (i:=i) hi
  rw [ev i _ _ e1 e2];exact(I.rc 8 (QO.mp hy _ (Q6 (by omega))) hx hu (qI r i _ _ e1 e2) rx).2
 ·rw [R6,S7,S7]
  constructor
  ·rintro⟨w,hw,h⟩
   obtain⟨i,hi,rfl⟩:=SQ hw;exact⟨ys[i]'(by omega),Q6 _,by rw [<- ev i _ _ (Ge9 (by omega)) (Ge9 hi)];exact h⟩
  ·rintro⟨y,hy,h⟩
   obtain⟨i,hi,rfl⟩:=SQ hy;exact⟨us[i]'(by omega),Q6 _,by rw [ev i _ _ (Ge9 hi) (Ge9 (by omega))];exact h⟩
theorem sO {ch:Nat} {b:Cs}:(!(Builtin.Str.occurrences ⟨b.toArray⟩ ⟨[ch].toArray⟩ 0 (⟨b.toArray⟩:Str).length 1).isEmpty)=decide (ch∈b):=by
 have:=StrLaws.found_one ⟨b.toArray⟩ ch;simpa using this
theorem v9 {x:T} {v:QN} (r:RT g none x v):(v == RG)=IE x:=by cases r <;> rfl
end
section
variable {prog:RY} {w:SU} {A:RH} {E:QN->QP->Prop} {s:QP}
theorem zM (n d:Nat) (hd:d<=n) (o:Option Int):clip n d o<=n:=by
 cases o with
 | none=>exact hd
 | some v =>
  show(if v<0 then (v+(n:Int)).toNat else min v.toNat n)<=n;by_cases hv:v<0
  ·rw [if_pos hv];omega
  ·rw [if_neg hv];exact Nat.min_le_right _ _
theorem sP (v:Int) (n d:Nat):(if v<0 then max (v+(n:Int)) 0 else min v (n:Int))=((clip n d (some v):Nat):Int):=by
 show(if v<0 then max (v+(n:Int)) 0 else min v (n:Int))=(((if v<0 then (v+(n:Int)).toNat else min v.toNat n):Nat):Int);by_cases hv:v<0
 ·simp only [if_pos hv];omega
 ·simp only [if_neg hv];omega
theorem qW (lo hi:Option Int) (n:Nat):UC lo hi 1 (n:Int)=(((clip n 0 lo:Nat):Int),((clip n n hi:Nat):Int)):=by
 have h1:¬ ((1:Int)<0):=by omega
 unfold UC;simp only [h1,if_false];refine Prod.ext ?_ ?_
 ·cases lo with
  | none=>rfl
  | some v=>exact sP v n 0
 ·cases hi with
  | none=>rfl
  | some v=>exact sP v n n
theorem qX (i j:Nat):Tz (i:Int) (j:Int) 1=j - i:=by
 unfold Tz;have h1:(1:Int) > 0:=by omega
 simp only [h1,if_true,Int.ediv_one];split <;> omega
theorem j9 {v:QN} {o:Option Int} {Q:Option Int->QP->Prop} (p:IsPart v o) (h:Q o s):QZ (model prog w) A (Builtin.Slice.slicePartIndex v) Q E s:=by
 cases p with
 | none=>exact slicePart_none h
 | int i t=>exact slicePart_int h
theorem eT {sl:Rm} {vl vu:QN} {lo hi:Option Int} {n:Nat} {Q:Int × Int × Nat->QP->Prop} (hs:s.heap.IsSliceOf sl vl vu .none) (pl:IsPart vl lo) (pu:IsPart vu hi)
  (h:Q (((clip n 0 lo:Nat):Int),1,clip n n hi - clip n 0 lo) s):QZ (model prog w) A (VC (.ref sl) (pure (n:Int))) Q E s:=by
 obtain⟨os,zE,IK,Ge⟩:=id hs;unfold VC Builtin.Slice.sliceFields;refine QJ (QJ (wpAny_field zE Ge (x:=vl) rfl (QJ (wpAny_field zE Ge (x:=vu) rfl (QJ (wpAny_field zE Ge (x:=.none) rfl (QL ?_)))))));refine QJ (slicePart_none ?_);show QZ _ _ (if ((1:Int) == 0)=true then _ else _) _ _ s
 rw [if_neg (by decide)];refine QJ (j9 pl (QJ (j9 pu (QJ (QL ?_)))));show QZ _ _ (match UC lo hi 1 (n:Int) with|(lo,hi)=>pure (lo,(1:Int),Tz lo hi 1)) _ _ s
 rw [qW lo hi n];show QZ _ _ (pure (((clip n 0 lo:Nat):Int),(1:Int),Tz ((clip n 0 lo:Nat):Int) ((clip n n hi:Nat):Int) 1)) _ _ s
 rw [qX];exact QL h
theorem wa (xs:Array QN) (i k:Nat):((RV k).filterMap fun(m:Nat)=>xs[((i:Int)+(m:Int) * 1).toNat]?).toArray=((xs.toList.drop i).take k).toArray:=by
 have e:(fun(m:Nat)=>xs[((i:Int)+(m:Int) * 1).toNat]?)=fun m=>xs[i+m]?:=by
  funext m;have:((i:Int)+(m:Int) * 1).toNat=i+m:=by omega
  rw [this]
 rw [e];have:=pick_run xs i k
 rw [List.filterMap_map] at this;have e2:((fun x=>xs[x]?) ∘ fun x=>i+x)=fun m=>xs[i+m]?:=rfl
 rw [e2] at this;rw [this]
theorem iF {t sl:Rm} {items:Array QN} {vl vu:QN} {lo hi:Option Int} {Q:QN->QP->Prop} (ht:IsTup s.heap t items) (hs:s.heap.IsSliceOf sl vl vu .none) (pl:IsPart vl lo) (pu:IsPart vu hi)
  (hw:¬ (clip items.size 0 lo=0/\clip items.size items.size hi=items.size))
  (h:Q (.ref s.heap.objs.size) { s with heap:=s.heap.push { cls:=.type "tuple",data:=.seq ((items.toList.drop (clip items.size 0 lo)).take (clip items.size items.size hi - clip items.size 0 lo)).toArray } })
  (hsz:items.size<=Q9):QZ (model prog w) A (getItem (.ref t) (.ref sl)) Q E s:=by
 have sQ:sizeOk (.seq ((items.toList.drop (clip items.size 0 lo)).take (clip items.size items.size hi - clip items.size 0 lo)).toArray):=by
  show((items.toList.drop (clip items.size 0 lo)).take (clip items.size items.size hi - clip items.size 0 lo)).toArray.size<=Q9;rw [So,Sw,Ru,Sm];omega
 have hj:clip items.size items.size hi<=items.size:=zM _ _ (Q3 _) hi;obtain⟨os,zE,IK,Ge⟩:=id hs;have yV:s.TypeIs (.ref sl) "slice":=⟨os,zE,IK⟩
 unfold getItem
 try with_reducible refine wpAny_holding ?_
 first|refine QJ (QL ?_)|skip
 refine QJ (wpAny_sequenceKey ht.typeIs (by decide) ?_);refine QJ (wpAny_callSpecial?_slot (name:=Sa "__getitem__") ht.typeIs Sp
  (wpAny_call_entry Sp ht.typeIs entry_tuple_getitem ?_ (args_tuple_getitem _ _)))
 show QZ _ _ (Us (.ref t) >>= _) _ _ s;refine QJ (tupleItemsOf_ ht ?_);refine QJ (wpAny_typeOf yV ?_);rw [if_pos (by decide)];refine QJ (eT hs pl pu ?_);have jm:¬ ((((clip items.size 0 lo:Nat):Int) == 0 && (1:Int) == 1 && (clip items.size items.size hi - clip items.size 0 lo) == items.size)=true):=by
  intro q;rw [QS,QS] at q;have q1:((clip items.size 0 lo:Nat):Int)=0:=eq_of_beq q.1.1
  have q2:clip items.size items.size hi - clip items.size 0 lo=items.size:=eq_of_beq q.2;exact hw ⟨by omega,by omega⟩
 show QZ _ _ (if (((clip items.size 0 lo:Nat):Int) == 0 && (1:Int) == 1 && (clip items.size items.size hi - clip items.size 0 lo) == items.size)=true then _ else _) _ _ s;rw [if_neg jm,wa]
 first
  | exact QJ (m:=TJ _) (wpAny_newObj_type (QL ⟨_,rfl,QL h⟩) sQ)
  | exact QJ (m:=TJ _) (wpAny_newObj_type (QJ (QL (QL ⟨_,rfl,QL h⟩))) sQ)
  | exact QJ (QJ (m:=TJ _) (wpAny_newObj_type (QL (QL ⟨_,rfl,QL h⟩)) sQ))
  | exact QJ (QJ (m:=TJ _) (wpAny_newObj_type (QL ⟨_,rfl,QL h⟩) sQ))
theorem iG {t sl:Rm} {items:Array QN} {vl vu:QN} {lo hi:Option Int} {Q:QN->QP->Prop} (ht:IsTup s.heap t items) (hs:s.heap.IsSliceOf sl vl vu .none) (pl:IsPart vl lo) (pu:IsPart vu hi)
  (hw:clip items.size 0 lo=0/\clip items.size items.size hi=items.size) (h:Q (.ref t) s):QZ (model prog w) A (getItem (.ref t) (.ref sl)) Q E s:=by
 obtain⟨os,zE,IK,Ge⟩:=id hs;have yV:s.TypeIs (.ref sl) "slice":=⟨os,zE,IK⟩
 unfold getItem
 try with_reducible refine wpAny_holding ?_
 first|refine QJ (QL ?_)|skip
 refine QJ (wpAny_sequenceKey ht.typeIs (by decide) ?_);refine QJ (wpAny_callSpecial?_slot (name:=Sa "__getitem__") ht.typeIs Sp
  (wpAny_call_entry Sp ht.typeIs entry_tuple_getitem ?_ (args_tuple_getitem _ _)))
 show QZ _ _ (Us (.ref t) >>= _) _ _ s;refine QJ (tupleItemsOf_ ht ?_);refine QJ (wpAny_typeOf yV ?_);rw [if_pos (by decide)];refine QJ (eT hs pl pu ?_);have JC:(((clip items.size 0 lo:Nat):Int) == 0 && (1:Int) == 1 && (clip items.size items.size hi - clip items.size 0 lo) == items.size)=true:=by
  rw [hw.1,hw.2];simp
 show QZ _ _ (if (((clip items.size 0 lo:Nat):Int) == 0 && (1:Int) == 1 && (clip items.size items.size hi - clip items.size 0 lo) == items.size)=true then _ else _) _ _ s;rw [if_pos JC];unfold Builtin.Tuple.tupleIsExact;refine QJ (QJ (wpAny_typeOf ht.typeIs (QL ?_)));rw [if_pos (by decide)];refine QJ (wpAny_rule ?_)
 first
  | exact QL ⟨_,rfl,QL h⟩
  | exact QJ (QL (QL ⟨_,rfl,QL h⟩))
end
theorem nz (lo hi:Option Int) (n:Nat):(sliceBounds lo hi none n).1=((clip n 0 lo:Nat):Int)/\(sliceBounds lo hi none n).2.1=((clip n n hi:Nat):Int)/\(sliceBounds lo hi none n).2.2=1:=by
 refine⟨?_,?_,rfl⟩
 ·cases lo with
  | none=>simp [sliceBounds,clip]
  | some i =>
   simp only [sliceBounds,clip,Ws,show(1:Int) > 0 by decide,if_true];by_cases h:i<0
   ·simp only [h,if_true] <;> omega
   ·simp only [h,if_false] <;> omega
 ·cases hi with
  | none=>simp [sliceBounds,clip]
  | some i =>
   simp only [sliceBounds,clip,Ws,show(1:Int) > 0 by decide,if_true];by_cases h:i<0
   ·simp only [h,if_true] <;> omega
   ·simp only [h,if_false] <;> omega
theorem lW (its:List QN) (lo hi:Option Int):slicePick its.toArray lo hi none=((its.drop (clip its.length 0 lo)).take (clip its.length its.length hi - clip its.length 0 lo)).toArray:=by
 obtain⟨h1,h2,h3⟩:=nz lo hi its.toArray.size;unfold slicePick;rw [h1,h2,h3];simp only [sliceRange_one,pick_run,So] <;> rfl
section
variable {X:Cx} {pins:aJ} {φ:Fr} {g:G} {L:aa} {s:QP} {xs ys:List T} {us vs:List QN} {e a b:Expr} {m ma mb:SE} {pos p2:Pos}
theorem ki {n:Nat} {i:Int} {j:Nat} (h:place n i=some j):seqIndex? i n=some j/\j<n/\-(n:Int)<=i/\i<n/\((0<=i/\i.toNat=j)\/(i<0/\(i+n).toNat=j)):=by
 unfold place at h;by_cases h0:0<=i
 ·rw [if_pos h0] at h
  by_cases h1:i<n
  ·rw [if_pos h1] at h
   cases h;exact⟨PySem.StrLaws.seqIndex_nonneg h0 h1,by omega,by omega,h1,.inl ⟨h0,rfl⟩⟩
  ·rw [if_neg h1] at h;cases h
 ·rw [if_neg h0] at h
  by_cases h1:-(n:Int)<=i
  ·rw [if_pos h1] at h
   cases h;exact⟨seqIndex_neg (by omega) h1,by omega,h1,by omega,.inr ⟨by omega,rfl⟩⟩
  ·rw [if_neg h1] at h;cases h
noncomputable def uo:Expr->Bool
 | .Slice ..=>false
 | _=>true
theorem wb (h:uo b=true):∀o i,subscripted b false o i=operate [o,i] (getItem o i):=fun o i=>by
 cases b <;> first|rfl|cases h
theorem qY:(Q9:Nat)<2 ^ 63:=by rw [Sr];decide
theorem gG {o:Option T} {w:T} {L':aa} (h:lift o L=.ok w L'):o=some w/\L'=L:=by
 cases o with
 | none=>cases h
 | some t=>cases h;exact⟨rfl,rfl⟩
noncomputable def PO (X:Cx) (e:Option Expr) (m:Option SE):Prop:=∀{pins:aJ} {φ:Fr} {g:G} {L:aa} {s:QP} {o:Option Int} {L':aa},Inv X pins φ g L s->Cr m φ L=.ok o L'->QZ (model X.prog X.w) X.A (evalPart e X.env) (fun u s'=>∃g',Le g g'/\Inv X pins φ g' L' s'/\IsPart u o) F0 s
theorem zN:PO X none none:=fun I h=>by cases h;rw [evalPart_none];exact QL ⟨_,.refl _,I,.none⟩
theorem zO (h:PE X e m):PO X (some e) (some m):=fun I q=>by
 obtain⟨t,L1,e1,q⟩:=R.of q;cases t <;> first|cases q|skip
 rw [evalPart_some];exact thn (h I e1) fun u s1 ⟨g1,l1,I1,r1⟩=>by obtain⟨_,rfl⟩:=r1.iI;exact⟨g1,l1,I1,.int _ _⟩
theorem bM.drop (h:bM g xs us):∀n,bM g (xs.drop n) (us.drop n):=by
 induction h with
 | nil=>intro n;simp;exact .nil
 | cons a b ih=>intro n;cases n with
  | zero=>exact .cons a b
  | succ n=>simpa using ih n
theorem bM.take (h:bM g xs us):∀n,bM g (xs.take n) (us.take n):=by
 induction h with
 | nil=>intro n;simp;exact .nil
 | cons a b ih=>intro n;cases n with
  | zero=>exact .nil
  | succ n=>simp;exact .cons a (ih n)
theorem zP {α:Type} (xs:List α) (lo hi:Option Int):(cut xs lo hi).length<=xs.length:=by
 unfold cut;rw [Sw,Ru];omega
theorem part_of {v:QN} {o:Option Int} (p:IsPart v o):∃q:Option (Int × Tok),v=partValue q/\q.map (·.1)=o:=by
 cases p with
 | none=>exact⟨none,rfl,rfl⟩
 | int i t=>exact⟨some (i,t),rfl,rfl⟩
theorem iH {z z2:Cs} {t:Tok} {vl vu:QN} {lo hi:Option Int} {sl:Rm} (I:Inv X pins φ g L s) (hz:z.length<=Q9) (hs:s.heap.IsSliceOf sl vl vu .none) (pl:IsPart vl lo) (pu:IsPart vu hi) (e2:(Txt.slice ⟨z.toArray⟩ lo hi == ⟨z2.toArray⟩)=true) (h2:z2.length<=z.length) :
  ∃T id,typeLookup (.type T) "__getitem__"=pure (some (.builtin id))/\s.TypeIs (.str ⟨z.toArray⟩ t) T/\QZ (model X.prog X.w) X.A (getItem (.str ⟨z.toArray⟩ t) (.ref sl)) (EP X pins φ g (.str z2) L) F0 s:=by
 obtain⟨ql,rfl,el⟩:=part_of pl;obtain⟨qu,rfl,eu⟩:=part_of pu;refine⟨"str",_,F.slot_str_getitem.lookup,typeIs_str _ _ _,wpAny_getItem_str_slice (l:=ql) (u:=qu) (st:=none) hs rfl ?_⟩;have e:sliceMade ⟨z.toArray⟩ t ql qu none=if ((1:Int) == 1 && (Vw lo hi 1 (⟨z.toArray⟩:Str).length).length == (⟨z.toArray⟩:Str).length)=true then .val (.str ⟨z.toArray⟩ t) else .str ⟨((Vw lo hi 1 (⟨z.toArray⟩:Str).length).filterMap ((⟨z.toArray⟩:Str).cps[·]?)).toArray⟩:=by
  unfold sliceMade slicePicked;rw [el,eu];rfl
 rw [e];have hlen:(⟨z.toArray⟩:Str).length=z.length:=by show z.toArray.size=_;simp
 exact post_val_or_str ⟨Ra (Txt.slice_le _ _ _) (by rw [hlen];exact hz),fun t' k=>(I.tok _).ep (by show RT g none _ (Vj (Txt.slice ⟨z.toArray⟩ lo hi) t');rw [eq_of_beq e2];exact .str _ _ (Ra h2 hz))⟩
theorem Ds {fz:Bool} {x w:T} {u vl vu:QN} {lo hi:Option Int} {sl:Rm} {L':aa} (I:Inv X pins φ g L s) (rx:RT g none x u) (hs:s.heap.IsSliceOf sl vl vu .none) (pl:IsPart vl lo) (pu:IsPart vu hi) (h:mr fz x lo hi L=.ok w L') :
  ∃T id,typeLookup (.type T) "__getitem__"=pure (some (.builtin id))/\s.TypeIs u T/\QZ (model X.prog X.w) X.A (getItem u (.ref sl)) (EP X pins φ g w L') F0 s:=by
 obtain⟨p,vx⟩:=I.view rx;unfold mr at h;generalize vw L x=x' at h vx;cases x' with
 | str z =>
  obtain⟨t,rfl,hz⟩:=vx.gP;have hlen:(⟨z.toArray⟩:Str).length=z.length:=by show z.toArray.size=_;simp
  match lo,hi,pl,pu,h with
  | some i,some j,pl,pu,h =>
   obtain⟨⟨h0,h1,h2⟩,h⟩:=ak h;cases h;exact iH I hz hs pl pu (by simpa using slice_closesL (x:=⟨z.toArray⟩) h0 h1 (by rw [hlen];exact h2)) (by rw [Sw,Ru];omega)
  | none,some j,pl,pu,h =>
   obtain⟨⟨h0,h2⟩,h⟩:=ak h;cases h;exact iH I hz hs pl pu (by simpa using slice_closes_toL (x:=⟨z.toArray⟩) h0 (by rw [hlen];exact h2)) (by rw [Sw];omega)
  | some i,none,pl,pu,h =>
   obtain⟨⟨h0,h2⟩,h⟩:=ak h;cases h;refine iH I hz hs pl pu ?_ (by rw [Ru];omega);have e:=slice_closes_fromL (x:=⟨z.toArray⟩) h0 (by rw [hlen];exact h2) rfl
   rw [RX (by rw [hlen,Ru];simp;omega)] at e;simpa using e
 | tup xs =>
  cases h;obtain⟨a,its,rfl,ht,r,hz⟩:=I.tupP vx;have hlen:its.size=xs.length:=by have:=Q0 r;simp at this;omega
  refine⟨"tuple",_,Sp.lookup,ht.typeIs,?_⟩;by_cases hw:clip its.size 0 lo=0/\clip its.size its.size hi=its.size
  ·refine iG ht hs pl pu hw (I.ep ?_)
   have e:cut xs lo hi=xs:=by
    unfold cut;rw [hlen] at hw;rw [hw.1,hw.2];simp
   rw [e];exact vx.tI.1
  ·refine iF ht hs pl pu hw ?_ (by rw [hlen];exact hz)
   rw [hlen];exact v8 (w:=.bj) (t':=s.toks) I ((r.drop _).take _) (Ra (zP xs lo hi) hz) (fun b u e=>QK _ e) (Q3 _) (QM _ rfl)
 | lst xs =>
  obtain⟨a,its,n,rfl,e,r,hz⟩:=I.lst vx;have hlen:its.size=xs.length:=by have:=Q0 r;simp at this;omega
  refine⟨"list",_,slot_list_getitem.lookup,(ae e).typeIs,?_⟩;refine wpAny_getItem_list_slice (ae e) hs pl pu .none (by simp) ?_ (by omega);rw [show its=its.toList.toArray by simp,lW,Sm,hlen];exact g9 (t':=s.toks) I ((r.drop _).take _) h (fun b u e=>QK _ e) (QM _ rfl)
 | _=>cases h
theorem Dt {fz:Bool} {lo hi:Option Expr} {ml mh:Option SE} (he:PE X e m) (hl:PO X lo ml) (hh:PO X hi mh):PE X (.Subscript e (.Slice lo hi none p2) pos) (sl fz m ml mh):=fun I h=>by
 obtain⟨x,L1,e1,h⟩:=R.of h;obtain⟨l,L2,e2,h⟩:=R.of h;obtain⟨r,L3,e3,h⟩:=R.of h;refine Subscript_ (thn (he I e1) fun v s1 ⟨g1,l1,I1,r1⟩=>wpAny_Slice (thn (hl I1 e2) fun vl s2 ⟨g2,l2,I2,pl⟩=>thn (hh I2 e3) fun vu s3 ⟨g3,l3,I3,pu⟩=>?_));rw [evalPart_none];refine QL ?_;have I4:=I3.kept (h':=s3.heap.push { cls:=.type "slice",data:=.fields #[vl,vu,.none] }) (t':=s3.toks) fun b ob q=>QK _ q
 obtain⟨T,id,hT,ht,hg⟩:=Ds I4 (r1.le (l2.trans l3)) (Heap.IsSliceOf.new ..) pl pu h;exact tail_any (ops:=[.ref s3.heap.objs.size,v]) ht hT (thn hg fun _ _ z=>z.le ((l1.trans l2).trans l3)) (by with_unfolding_all rfl)
end
section
variable {X:Cx} {pins:aJ} {φ:Fr} {g:G} {L L':aa} {s:QP} {xs ys:List T} {us vs:List QN} {e o:Expr} {es:List Expr} {m:SE} {ms:List SE} {pos p apos:Pos} {x:Str} {F:Fn} {t w:T} {u v:QN}
theorem Du (hc:∃f,bootBuiltins x=some f/\cR X f F/\((∃id,f=.builtin id)\/∃T,f=.type T)) (hg:Gl X x) (hm:X.mg x=none) (hn:x≠"__name__") (Ga:(x == ("__debug__":Str))=false) (ha:PA X (e::es) (gz ms)) (hs:(e::es).all aF=true):PE X (.Call (.Name x p) (e::es) [] pos) (af F ms):=fun I h=>by
 obtain⟨ts,L1,e1,h⟩:=R.of h;obtain⟨f,hv,hF,hk⟩:=hc;rw [R0,QS] at hs;refine wpAny_Call_Name_kw (cy I hg hm hv ?_ hn Ga);have A:=thn (E:=F0) (Q':=fun us s1=>QZ (model X.prog X.w) X.A (call f us) (EP X _ _ _ _ _) F0 s1) (ha pos I e1) fun us s1 ⟨g1,l1,I1,r1⟩=>thn (hF I1 r1 h) fun _ _ z=>z.le l1
 rcases hk with⟨id,rfl⟩|⟨T,rfl⟩
 ·exact callWith_builtin1 A (ai hs.1) (aL hs.2)
 ·exact callWith_type1 A (ai hs.1) (aL hs.2)
theorem bo (r:bM g [t] us):∃u,us=[u]/\RT g none t u:=by
 cases r with|cons a b=>cases b;exact⟨_,rfl,a⟩
theorem ft {t1 t2:T} (r:bM g [t1,t2] us):∃u1 u2,us=[u1,u2]/\RT g none t1 u1/\RT g none t2 u2:=by
 cases r with|cons a b=>obtain⟨u,rfl,c⟩:=bo b;exact⟨_,_,rfl,a,c⟩
theorem str_len {z:Cs}:(⟨z.toArray⟩:Str).length=z.length:=by show z.toArray.size=_;simp
theorem wc:cR X (.builtin "len") di:=fun {_ _ _ _ _ xs _ _ _} I r h=>by
 have hn:=qY;unfold di at h;split at h
 ·obtain⟨u,rfl,ru⟩:=bo r
  obtain⟨p,v⟩:=I.view ru;split at h
  ·rename_i ev
   cases h;rw [ev] at v;obtain⟨t,rfl,hz⟩:=v.gP;refine len_str (by rw [str_len];omega) ?_;rw [str_len];exact(I.tok _).ep (.int _ _)
  ·rename_i ev
   cases h;rw [ev] at v;obtain⟨a,its,rfl,e,rr,hz⟩:=I.tupP v;have hl:=Q0 rr
   exact len_tuple e (by simp at hl;omega) (by rw [show its.size=_ from by simpa using hl.symm];exact(I.tok _).ep (.int _ _))
  ·rename_i ev
   cases h;rw [ev] at v;obtain⟨a,its,n,rfl,e,rr,hz⟩:=I.lst v;have hl:=Q0 rr
   exact Calls.call_len_list (ae e) (by simp at hl;omega) (by rw [show its.size=_ from by simpa using hl.symm];exact(I.tok _).ep (.int _ _))
  ·cases h
 ·cases h
theorem Inv.seq {q:Option (Rm × Rm)} (I:Inv X pins φ g L s) (r:RT g q t u) (h:t=.lst xs\/t=.tup xs):∃a its o n T,u=.ref a/\s.heap.get? a=some o/\o.cls=.type T/\o.data=.seq its n/\(T="list"\/T="tuple")/\bM g xs its.toList/\its.size=xs.length/\xs.length<=Q9:=by
 rcases h with rfl|rfl
 ·obtain⟨a,its,n,rfl,e,rr,hz⟩:=I.lst r
  exact⟨a,its,_,n,_,rfl,e,rfl,rfl,.inl rfl,rr,by simpa using (Q0 rr).symm,hz⟩
 ·obtain⟨a,its,rfl,⟨o,ho,hc,n,hd⟩,rr,hz⟩:=I.tupP r
  exact⟨a,its,o,n,_,rfl,ho,hc,hd,.inr rfl,rr,by simpa using (Q0 rr).symm,hz⟩
theorem sR {fz:Bool} (I:Inv X pins φ g L s) (ru:RT g none t u) (ht:vw L t=.lst xs\/vw L t=.tup xs) (h:fk fz xs L=.ok w L'):QZ (model X.prog X.w) X.A (call (.type "list") [u]) (EP X pins φ g w L') F0 s:=by
 obtain⟨p,v⟩:=I.view ru;obtain⟨a,its,o,n,T,rfl,ho,hc,hd,hT,rr,hl,hz⟩:=I.seq v ht;exact call_list_seq a hT ho hc hd (fun h' c' kp e=>g9 (t':=s.toks) (n:=c') I rr h kp (by simpa using e)) (by omega)
theorem we:cR X (.type "tuple") jW:=fun {_ _ _ _ s _ _ _ _} I r h=>by
 unfold jW at h;split at h
 ·obtain⟨u,rfl,ru⟩:=bo r
  obtain⟨p,v⟩:=I.view ru;split at h
  ·rename_i ev
   rw [ev] at v;cases h;obtain⟨a,its,rfl,e,rr,hz⟩:=I.tupP v;exact call_tuple_same e (I.ep v.tI.1)
  ·rename_i ev
   rw [ev] at v;cases h;obtain⟨a,its,n,rfl,e,rr,hz⟩:=I.lst v;have hl:=Q0 rr
   refine call_tuple_list (ae e) (fun h' kp=>?_) (by simp at hl;omega);have J:=I.kept (t':=s.toks) kp
   exact v8 (w:=.bj) (t':=s.toks) (n:=0) J rr hz (fun b o e=>QK _ e) (Q3 _) (by simpa using QM h' (o:={ cls:=.type "tuple",data:=.seq its }) rfl)
  ·cases h
 ·cases h
theorem sS {α:Type} {f:T->Option α}:∀{ys:List T} {bs:List α},ys.mapM f=some bs->ys.length=bs.length/\∀(i:Nat) y,ys[i]?=some y->∃b,bs[i]?=some b/\f y=some b
 | [],bs,h=>by simp at h;subst h;exact⟨rfl,fun i y e=>by simp at e⟩
 | y::ys,bs,h=>by
  rw [Tw] at h;cases e1:f y with
  | none=>rw [e1] at h;cases h
  | some b =>
   rw [e1] at h;cases e2:ys.mapM f with
   | none=>rw [e2] at h;cases h
   | some r =>
    rw [e2] at h;have h:some (b::r)=some bs:=h
    cases h;obtain⟨h1,h2⟩:=sS e2;refine⟨by simp [h1],fun i z e=>?_⟩;cases i with
    | zero=>cases e;exact⟨b,rfl,e1⟩
    | succ i=>exact h2 i z (by simpa using e)
theorem wh {α:Type} {f:T->Option α} {k:List α->T} (I:Inv X pins φ g L s) (r:bM g xs us) (h:FP f k xs L=.ok w L'):∃a its n bs,us=[.ref a]/\L'=L/\w=k bs/\s.heap.get? a=some { cls:=.type "list",data:=.seq its n }/\its.size=bs.length/\a<s.heap.objs.size /\
  ∀(i:Nat) v,its[i]?=some v->∃b y,bs[i]?=some b/\f y=some b/\RT g none y v:=by
 unfold FP at h;split at h
 ·obtain⟨u,rfl,ru⟩:=bo r
  obtain⟨p,v⟩:=I.view ru;split at h
  ·rename_i ev
   rw [ev] at v;obtain⟨q,rfl⟩:=gG h;obtain⟨bs,q2,rfl⟩:=QY.mp q;obtain⟨h1,h2⟩:=sS q2;obtain⟨a,its,n,rfl,e,rr,hz⟩:=I.lst v;have hl:=Q0 rr
   refine⟨a,its,n,bs,rfl,rfl,rfl,e,by simp at hl;omega,Q1 e,fun i v hv=>?_⟩;have hi:=(Ut.mp hv).1
   have e1:=Ge9 (l:=_) (i:=i) (show i<_ from by rw [hl];simpa using hi);obtain⟨b,b1,b2⟩:=h2 i _ e1;exact⟨b,_,b1,b2,qI rr i _ v e1 (by simpa using hv)⟩
  ·cases h
 ·cases h
theorem all_range (bs:List Bool):((RV bs.length).all fun i=>(bs[i]?).getD true)=bs.all id:=by
 rw [R6,QO,QO];constructor
 ·intro h b hb
  obtain⟨i,hi,rfl⟩:=SQ hb;have z:=h i (R2.mpr hi)
  simpa [hi] using z
 ·intro h i hi
  have hi':=R2.mp hi;have z:=h _ (Q6 hi')
  simpa [hi'] using z
theorem any_range (bs:List Bool):((RV bs.length).any fun i=>(bs[i]?).getD true)=bs.any id:=by
 rw [R6,S7,S7];constructor
 ·rintro⟨i,hi,h⟩
  have hi':=R2.mp hi;exact⟨bs[i],Q6 hi',by simpa [hi'] using h⟩
 ·rintro⟨b,hb,h⟩
  obtain⟨i,hi,rfl⟩:=SQ hb;exact⟨i,R2.mpr hi,by simpa [hi] using h⟩
theorem Inv.over {h':Heap} {tk:Nat} {o:Obj} (I:Inv X pins φ g L s) (hk:∀b ob,b∉[s.heap.objs.size]->(s.heap.push o).get? b=some ob->h'.get? b=some ob):Inv X pins φ g L { s with heap:=h',toks:=tk } :=
 I.kept fun b ob e=>hk b ob (fun hm=>by rw [Rr.mp hm] at e;exact Sk _ (Q1 e)) (QK _ e)
theorem wi {y:T} {b:Bool} {v:QN} (h:IH y=some b) (r:RT g none y v):v=.bool b:=by
 cases r <;> cases h;rfl
theorem JD {y:T} {b:Int} {v:QN} (h:NB y=some b) (r:RT g none y v):∃t,v=.int b t:=by
 cases r <;> cases h;exact⟨_,rfl⟩
theorem Dv {y:T} {b:Cs} {v:QN} (h:Fp y=some b) (r:RT g none y v):∃t,v=.str ⟨b.toArray⟩ t/\b.length<=Q9:=by
 cases y <;> cases h;exact r.gP
theorem wj:cR X (.builtin "all") lP:=fun {_ _ _ _ s _ _ _ _} I r h=>by
 obtain⟨a,its,n,bs,rfl,rfl,rfl,e,hl,bL,hi⟩:=wh I r h;refine call_all_walk (wpAny_pyIter_list (ae e) ?_);refine⟨s.heap.objs.size,[s.heap.objs.size,a],[s.heap.objs.size],its.size,_,_,fun i=>(bs[i]?).getD true,rfl,Walks.list (A:=X.A.in1) I.ok.hd _ a (Rc bL) its,
  ⟨⟨_,QM _ rfl,rfl,rfl⟩,(ae e).push _⟩,fun i v s' Q' E' hP hQ=>?_,fun h' tk hk=>?_⟩
 ·obtain⟨b,y,b1,b2,b3⟩:=hi i v hP
  rw [wi b2 b3];simp only [b1,Tp] at hQ;exact wpAny_truthy_bool hQ
 ·rw [hl,all_range]
  exact(I.over hk).ep (.bl _)
theorem wm:cR X (.builtin "any") m4:=fun {_ _ _ _ s _ _ _ _} I r h=>by
 obtain⟨a,its,n,bs,rfl,rfl,rfl,e,hl,bL,hi⟩:=wh I r h;refine call_any_walk (wpAny_pyIter_list (ae e) ?_);refine⟨s.heap.objs.size,[s.heap.objs.size,a],[s.heap.objs.size],its.size,_,_,fun i=>(bs[i]?).getD true,rfl,Walks.list (A:=X.A.in1) I.ok.hd _ a (Rc bL) its,
  ⟨⟨_,QM _ rfl,rfl,rfl⟩,(ae e).push _⟩,fun i v s' Q' E' hP hQ=>?_,fun h' tk hk=>?_⟩
 ·obtain⟨b,y,b1,b2,b3⟩:=hi i v hP
  rw [wi b2 b3];simp only [b1,Tp] at hQ;exact wpAny_truthy_bool hQ
 ·rw [hl,any_range]
  exact(I.over hk).ep (.bl _)
theorem zQ (l:List Int):∀j,preSum (fun i=>l.getD i 0) j=(l.take j).sum
 | 0=>by simp [preSum]
 | j+1=>by
  rw [preSum,zQ l j];by_cases h:j<l.length
  ·rw [Xb,List.sum_append,Gd9,Ge9 h];simp
  ·rw [RX (by omega),RX (by omega),Gd9,SY (by omega)];simp
theorem wo:cR X (.type "str") lQ:=fun I r h=>by
 unfold lQ at h;split at h
 ·obtain⟨⟨h1,h2⟩,h⟩:=ak h
  cases h;obtain⟨u,rfl,ru⟩:=bo r;obtain⟨_,rfl⟩:=ru.iI;exact PySem.P.str_of_int h1 ((I.tok _).ep (.str _ _ h2))
 ·cases h
theorem wq:cR X (.type "int") ue:=fun I r h=>by
 unfold ue at h;split at h
 ·obtain⟨u,rfl,ru⟩:=bo r
  obtain⟨t,rfl,hz⟩:=ru.gP;split at h
  ·obtain⟨h1,h⟩:=ak h
   cases h;exact PySem.W.KIN.call_text (by assumption) (by rw [str_len];exact h1) ((I.tok _).ep (.int _ _))
  ·cases h
 ·cases h
theorem Gf {xs:List T} {w:T} {L':aa} (h:Cu xs L=.ok w L'):∃x n,xs=[x,.cl (.type n)]/\Jk L n x=.ok w L':=by
 match xs,h with
 | [x,y],h =>
  have h:(match Jl y with|some n=>Jk L n x|none=>.bad)=.ok w L':=h;cases e:Jl y with
  | none=>rw [e] at h;cases h
  | some n =>
   rw [e] at h;refine⟨x,n,?_,h⟩;cases y with
   | cl c=>cases c with
    | type m=>cases e;rfl
    | _=>cases e
   | _=>cases e
theorem zR:cR X (.builtin "isinstance") Cu:=fun {_ _ _ L s _ w L' _} I r h=>by
 obtain⟨x,n,rfl,h⟩:=Gf h;obtain⟨u,v,rfl,r1,r2⟩:=ft r;obtain rfl:=r2.cI;have key:∀{b k:Bool} {P:Prop},(n="bool"->L'=L->w=.bl b->P)->(n="int"->L'=L->w=.bl k->P)->(if n="bool" then R.ok (T.bl b) L else if n="int" then .ok (.bl k) L else .bad)=.ok w L'->P:=fun f k h=>by
  split at h
  ·cases h;exact f ‹_› rfl rfl
  ·split at h
   ·cases h;exact k ‹_› rfl rfl
   ·cases h
 have one:∀{m:String},(if n=m then R.ok (T.bl true) L else .bad)=.ok w L'->n=m/\L'=L/\w=.bl true:=fun h=>by
  split at h
  ·cases h;exact⟨‹_›,rfl,rfl⟩
  ·cases h
 cases x with
 | bl b =>
  obtain rfl:=r1.bI;exact key (fun a b c=>by subst a b c;exact PySem.IsiPair.bool_bool (I.ep (.bl _))) (fun a b c=>by subst a b c;exact PySem.IsiPair.bool_int (I.ep (.bl _))) h
 | int i =>
  obtain⟨_,rfl⟩:=r1.iI;exact key (fun a b c=>by subst a b c;exact PySem.IsiPair.int_bool ((I.tok _).ep (.bl _))) (fun a b c=>by subst a b c;exact PySem.IsiPair.int_int (I.ep (.bl _))) h
 | tup xs =>
  obtain⟨rfl,rfl,rfl⟩:=one h;obtain⟨a,its,rfl,⟨o,e,hc,_⟩,_⟩:=I.tupP r1;exact WQ (WR (Tx:="tuple") PySem.F.isi_meta_tuple PySem.F.sub_tuple_tuple) ⟨⟨o,e,hc⟩,I.ep (.bl _)⟩
 | lst xs =>
  obtain⟨rfl,rfl,rfl⟩:=one h;obtain⟨a,its,n,rfl,e,_⟩:=I.lst r1;exact WQ (WR (Tx:="list") PySem.F.isi_meta_list PySem.F.sub_list_list) ⟨⟨_,e,rfl⟩,I.ep (.bl _)⟩
 | _=>cases h
noncomputable def ur (X:Cx) (id:String) (m:T->Fn):Prop:=∀{pins:aJ} {φ:Fr} {g:G} {L:aa} {s:QP} {x:T} {xs:List T} {w:T} {L':aa} {v:QN} {us:List QN},Inv X pins φ g L s->RT g none x v->bM g xs us->m x xs L=.ok w L'->QZ (model X.prog X.w) X.A (call (.builtin id) (v::us)) (EP X pins φ g w L') F0 s
noncomputable def Ty.nm:Ty->String
 | .s=>"str"|.l=>"list"|.t=>"tuple"|.d=>"dict"
theorem Dw {n:Ty} (I:Inv X pins φ g L s) (r:RT g none t u) (h:Bv L t=some n):s.TypeIs u n.nm/\(∀a,u=.ref a->∃o,s.heap.get? a=some o/\o.dict=none):=by
 obtain⟨p,v⟩:=I.view r;unfold Bv at h;split at h <;> first|cases h|skip
 all_goals (rename_i ev;rw [ev] at v)
 ·obtain⟨t,rfl,_⟩:=v.gP
  exact⟨typeIs_str _ _ _,fun a e=>by cases e⟩
 ·obtain⟨a,its,n,rfl,e,_⟩:=I.lst v
  exact⟨⟨_,e,rfl⟩,fun b q=>by cases q;exact⟨_,e,rfl⟩⟩
 ·obtain⟨_,_,_,_,_,rfl,hk,hc,_⟩:=v.tI
  exact⟨⟨_,I.kn hk,hc.1⟩,fun b q=>by cases q;exact⟨_,I.kn hk,hc.2⟩⟩
 ·cases v with
  | ah _ hk hx=>exact⟨⟨_,I.kn hk,hx.1⟩,fun b q=>by cases q;exact⟨_,I.kn hk,hx.2.1⟩⟩
noncomputable def Dx (X:Cx) (x:Str) (y:Ty) (F:T->Fn):Prop:=∃id,PlainAttrs y.nm/\Slot y.nm x id/\typeOf (.builtin id)=pure (.type "method_descriptor")/\ur X id F
theorem zS {f:Ty->Option (T->Fn)} (hM:∀T F,f T=some F->Dx X x T F) (ho:PE X o m) (ha:PA X es (gz ms)) (h0:es=[]->ms=[]) (hs:es.all aF=true) (hl:es.length<30) (hb:okBase o=true) (iC:(apos.endLine == pos.line)=true) :
  PE X (.Call (.Attribute o x apos) es [] pos) (ar f m ms):=fun I h=>by
 obtain⟨t,L1,e1,h⟩:=R.of h;cases ef:(Bv L1 t).bind f with
 | none=>simp only [ef] at h;cases h
 | some F =>
  simp only [ef] at h;obtain⟨T,hT,hF⟩:=S9.mp ef;obtain⟨ts,L2,e2,h⟩:=R.of h;obtain⟨id,pa,slot,Fx,hm⟩:=hM T F hF;refine wpAny_Call_method_late (base_ok hb) (nu hs hl) iC rfl (thn (ho I e1) fun v s1 ⟨g1,l1,I1,r1⟩=>?_);obtain⟨h1,h2⟩:=Dw I1 r1 hT;refine⟨T.nm,id,pa,slot,Fx,h1,h2,?_⟩;refine U4 (aL hs) ?_;cases es with
  | nil =>
   rw [h0 rfl] at e2;cases e2;exact Vx (thn (hm I1 r1 .nil h) fun _ _ z=>z.le l1)
  | cons e es =>
   rw [R0,QS] at hs;have A:=ha pos I1 e2
   rw [ai hs.1] at A ⊢;exact Calls.evalArgs_plain (thn A fun us s2 ⟨g2,l2,I2,r2⟩=>thn (hm I2 (r1.le l2) r2 h) fun _ _ z=>z.le (l1.trans l2))
theorem Inv.lU {n:Nat} {its:Array QN} {cnt:Nat} {a:Rm} {f:Array QN->Array QN} {t':Nat} (I:Inv X pins φ g L s) (hc:at_ L n=some (.lst xs)) (ru:RT g none (.ref n) (.ref a)) (e:s.heap.get? a=some { cls:=.type "list",data:=.seq its cnt }) (r:bM g ys (f its).toList) (hz:ys.length<=Q9) :
  EP X pins φ g .bj (put L n (.lst ys)) .none { s with heap:=s.heap.update a (RJ f),toks:=t' }:=by
 obtain⟨p,hp,rc⟩:=I.rel.cells n _ hc;cases ru with
 | ref hq =>
  rw [hp] at hq;cases hq;generalize oX:(some p:Option (Rm × Rm))=pp at rc;generalize JE:Sz p.1=pa at rc;cases rc with
  | lst ht hk Qs hl hi =>
   cases JE;subst oX;have q:=XF e f
   obtain⟨n',hn'⟩:∃n',(s.heap.update p.1 (RJ f)).get? p.1=some { cls:=.type "list",data:=.seq (f its) n' }:=⟨_,q⟩;have hH:∃o,g.H p.1=some (false,o):=by
    rcases hk with hk|⟨z,_⟩
    ·exact⟨_,hk⟩
    ·cases z
   obtain⟨o,hH⟩:=hH;have l:=Le.set (o:={ cls:=.type "list",data:=.seq (f its) n' }) hH
   refine⟨_,l,I.set (t':=t') hp (.inl rfl) hH (fun b v hb hv=>(Rh s.heap (RJ f) (Sy hb)).trans hv) hn' ?_,.bj⟩;have:=r.lst (o:=default) (g1:=g.set p.1 { cls:=.type "list",data:=.seq (f its) n' }) (n:=n') l ht (.inl (by rw [show(f its).toList.toArray=f its by simp];exact aj)) hz
   exact this
theorem Inv.mG {n:Nat} (I:Inv X pins φ g L s) (rx:RT g none (.ref n) v) (ea:at_ L n=some (.lst ys)):∃a its cnt,v=.ref a/\s.heap.get? a=some { cls:=.type "list",data:=.seq its cnt }/\bM g ys its.toList/\its.size=ys.length/\ys.length<=Q9:=by
 obtain⟨p,v⟩:=I.view rx;rw [show vw L (.ref n)=.lst ys by show(at_ L n).getD T.bj=_;rw [ea];rfl] at v;obtain⟨a,its,cnt,rfl,e,rr,hz⟩:=I.lst v;exact⟨a,its,cnt,rfl,e,rr,by simpa using (Q0 rr).symm,hz⟩
theorem Dy:ur X "list.append" zm:=fun I rx rv h=>by
 unfold zm at h;split at h
 ·split at h
  ·rename_i n t _ ys ea
   obtain⟨hz,h⟩:=ak h;cases h;obtain⟨u,rfl,ru⟩:=bo rv;obtain⟨a,its,cnt,rfl,e,rr,hl,_⟩:=I.mG rx ea;have bL:ys.length<Q9:=hz
   refine call_meets Vo ⟨_,e,rfl⟩ F.entry_list_append (F.args_list_append_2 _ _) (PySem.list_append a its cnt u (by omega)) ⟨e,?_⟩;exact I.lU ea rx e (by simpa using rr.app (.cons ru .nil)) (by simp;omega)
  ·cases h
 ·cases h
theorem kj (l:Rm) (xs:Array QN) (n:Nat) (b:Rm) (ys:Array QN) (k:Nat) (dd:Option Rm) (sl:Array (Option QN)) (qz:¬(!xs.isEmpty && SD (xs.size+ys.size))=true) (h1:xs.size<=Q9) (h2:xs.size+ys.size<=Q9+1) :
  Meets (Builtin.«list.extend» ⟨[.ref l,.ref b],[]⟩)
   (fun _ R st=>st.heap.get? l=some { cls:=.type "list",dict:=none,data:=.seq xs n,slots:=#[] }/\st.heap.get? b=some { cls:=.type "tuple",dict:=dd,data:=.seq ys k,slots:=sl } /\
    R (.ok (.ret RG)) { st with heap:=st.heap.update l (RJ fun x=>x++ys),toks:=st.toks }) :=
 .of_wp fun prog w A R st h=>by
  obtain⟨hp,gs,dr,tk,os⟩:=st;obtain⟨gl,gb,hR⟩:=h;have i1:=AutoSeq1.idx_int
  have i2:=V4;have i3:=WB
  have i4:=AutoSeq1.sub_tuple_list;have i5:=AutoSeq1.sub_list_tuple
  have both:(xs++ys).size<=Q9+1:=by rw [Array.size_append];exact h2
  wp_walk using (wpAny_updateSeq gl rfl (hz:=h1) (_hz':=both)),RK gl,RK gb
  exact⟨_,rfl,hR⟩
theorem Dz:ur X "list.extend" vC:=fun I rx rv h=>by
 have long:∀{n:Nat} (b:Bool),n<=Q9->¬ (b && SD n)=true:=fun b h=>by
  rw [show SD _=false by unfold SD;exact decide_eq_false (by omega),UB];exact RC
 unfold vC at h;split at h
 ·split at h
  ·rename_i n t _ _ ys zs ea ev
   obtain⟨hz,h⟩:=ak h;have hz:ys.length+zs.length<=Q9:=hz
   cases h;obtain⟨u,rfl,ru⟩:=bo rv;obtain⟨p,v⟩:=I.view ru;rw [ev] at v;obtain⟨a,its,cnt,rfl,e,rr,hl,_⟩:=I.mG rx ea;obtain⟨b,nA,JF,rfl,e2,zT,Oa⟩:=I.lst v;have km:nA.size=zs.length:=by simpa using (Q0 zT).symm
   refine call_meets Vp ⟨_,e,rfl⟩ F.entry_list_extend (F.args_list_extend_2 _ _) (AutoSeq1.list_extend_list_list_0 a its cnt b nA JF (long _ (by omega)) (by omega) (by omega)) ⟨e,e2,?_⟩;exact I.lU ea rx e (by simpa using rr.app zT) (by simp;omega)
  ·rename_i n t _ _ ys zs ea ev
   obtain⟨hz,h⟩:=ak h;have hz:ys.length+zs.length<=Q9:=hz
   cases h;obtain⟨u,rfl,ru⟩:=bo rv;obtain⟨p,v⟩:=I.view ru;rw [ev] at v;obtain⟨a,its,cnt,rfl,e,rr,hl,_⟩:=I.mG rx ea;obtain⟨b,nA,rfl,⟨⟨oc,od,dt,sl⟩,e2,hc,n2,hd⟩,zT,Oa⟩:=I.tupP v;simp only at hc hd;subst hc hd;have km:nA.size=zs.length:=by simpa using (Q0 zT).symm
   refine call_meets Vp ⟨_,e,rfl⟩ F.entry_list_extend (F.args_list_extend_2 _ _) (kj a its cnt b nA n2 od sl (long _ (by omega)) (by omega) (by omega)) ⟨e,e2,?_⟩;exact I.lU ea rx e (by simpa using rr.app zT) (by simp;omega)
  ·cases h
 ·cases h
theorem count_eq {α β:Type} {l:List α} {k:List β} {f:α->Bool} {g:β->Bool} (hl:l.length=k.length) (h:∀(i:Nat) a b,l[i]?=some a->k[i]?=some b->f a=g b):l.countP f=k.countP g:=by
 induction l generalizing k with
 | nil=>cases k with
  | nil=>rfl
  | cons _ _=>cases hl
 | cons a l ih=>cases k with
  | nil=>cases hl
  | cons b k =>
   rw [List.countP_cons,List.countP_cons,ih (by simpa using hl) (fun i x y e1 e2=>h (i+1) x y (by simpa using e1) (by simpa using e2)),h 0 a b rfl rfl]
theorem ja {M:Model} {A:RH} {E:QN->QP->Prop} {s:QP} {β:Type} {n:Nat} (f:Nat->β->Sem (ForInStep β)) (I:Nat->β->QP->Prop) (Q:β->QP->Prop) {b:β}
  (turn:∀i b s',i<n->I i b s'->QZ M A (f i b) (fun r zU=>match r with|.done b'=>Q b' zU|.yield b'=>I (i+1) b' zU) E s')
  (fin:∀b s',I n b s'->Q b s') (h:I 0 b s):QZ M A (forIn [0:n] b f) Q E s:=by
 rw [Uk];have hsz:([0:n]:XH).size=n:=by simp [Std.Legacy.Range.size]
 show QZ M A (forIn (List.range' 0 ([0:n]:XH).size 1) b f) Q E s;rw [hsz];refine wpAny_forIn_list f (fun rest b s'=>∃i,i<=n/\rest=List.range' i (n - i) 1/\I i b s') Q ?_ ?_ _ _ ⟨0,Rf _,by simp,h⟩
 ·rintro x rest b s' ⟨i,hi,er,hI⟩
  have bL:i<n:=by
   cases e:n - i with
   | zero=>rw [e] at er;cases er
   | succ m=>omega
  have e2:n - i=(n - (i+1))+1:=by omega
  rw [e2,List.range'_succ] at er;injection er with e3 e4;subst e3;refine wpAny_mono (turn x b s' bL hI) (fun r zU q=>?_) fun _ _ q=>q
  cases r with
  | done b'=>exact q
  | yield b'=>exact⟨x+1,bL,e4,q⟩
 ·rintro b s' ⟨i,hi,er,hI⟩
  have:i=n:=by
   cases e:n - i with
   | zero=>omega
   | succ m=>rw [e,List.range'_succ] at er;cases er
  subst this;exact fin b s' hI
open SeqAt in
theorem lX (l:Rm) (items:Array QN) (n:Nat) (dd:Option Rm) (sl:Array (Option QN)) (x:QN) (e:QN->Bool) (j:Nat) (hj:j<items.size) (hit:e items[j]=true) (jm:∀m (hm:m<items.size),m<j->e items[m]=false) :
  Meets (Builtin.«tuple.index» ⟨[.ref l,x],[]⟩)
   (fun A R s=>s.heap.get? l=some { cls:=.type "tuple",dict:=dd,data:=.seq items n,slots:=sl }/\(∀y,y∈items->EqAt A.in1 s y x (e y))/\R (.ok (.ret (.int (j:Nat) s.toks))) { s with toks:=s.toks+1 }) :=
 .of_wp fun prog w A R s h=>by
  obtain⟨hp,g,d,tk,os⟩:=s;obtain⟨hl,he,h⟩:=h
  wp_walk using wpAny_loadPart' hl,ja _ (fun i b s'=>b.1=none/\s'=⟨hp,g,d,tk,os⟩/\i<=j) _
  case turn =>
   rintro i b s' hi ⟨hb,rfl,qZ⟩;have hi':i<items.size:=by omega
   rw [QU hi'];refine QJ (he items[i] (V5 hi') prog w _ _ ?_);by_cases hy:i=j
   ·subst hy
    rw [hit]
    wp_walk
    exact⟨_,rfl,h⟩
   ·rw [jm i hi' (by omega)]
    wp_walk
    exact⟨rfl,rfl,by omega⟩
  case fin =>
   rintro⟨b1,b2⟩ s' ⟨hb,rfl,qZ⟩;omega
  case h =>
   exact⟨rfl,rfl,Rf _⟩
theorem wt {A:RH} {its:Array QN} (hu:A.units+8<cLine) (I:Inv X pins φ g L s) (h1:dat 8 t=true) (h2:xs.all (dat 8)=true) (ru:RT g none t u) (rr:bM g xs its.toList):∃e:QN->Bool,(∀w∈its,S5 A s w u (e w))/\its.toList.countP e=xs.countP fun y=>eqT y t:=by
 obtain⟨e,he,_,hi⟩:=ny I hu h1 ru h2 rr;exact⟨e,fun w hw=>he w (by simpa using hw),(count_eq (Q0 rr) fun i a b e1 e2=>(hi i a b e1 e2).symm).symm⟩
theorem zV (hu:X.A.units+20<cLine):ur X "list.count" sy:=fun I rx rv h=>by
 have fS:X.A.in1.units+8<cLine:=by show X.A.units+1+8<cLine;omega
 obtain⟨p,v⟩:=I.view rx;unfold sy at h;split at h
 ·rename_i ev
  obtain⟨⟨h1,h2⟩,h⟩:=ak h;cases h;obtain⟨u,rfl,ru⟩:=bo rv;rw [ev] at v;obtain⟨a,its,n,rfl,e,rr,_⟩:=I.lst v;obtain⟨f,f1,f2⟩:=wt fS I h1 h2 ru rr;exact call_meets Wk (ae e).typeIs PySem.F.entry_list_count (PySem.F.args_list_count_2 _ _) (SeqAt.list_countAt a its n none #[] u f) ⟨e,f1,by rw [f2];exact(I.tok _).ep (.int _ _)⟩
 ·cases h
theorem zW (hu:X.A.units+20<cLine):ur X "tuple.count" sA:=fun I rx rv h=>by
 have fS:X.A.in1.units+8<cLine:=by show X.A.units+1+8<cLine;omega
 obtain⟨p,v⟩:=I.view rx;unfold sA at h;split at h
 ·rename_i ev
  obtain⟨⟨h1,h2⟩,h⟩:=ak h;cases h;obtain⟨u,rfl,ru⟩:=bo rv;rw [ev] at v;obtain⟨a,its,rfl,⟨⟨oc,od,dt,sl⟩,e2,hc,n2,hd⟩,rr,_⟩:=I.tupP v;simp only at hc hd;subst hc hd;obtain⟨f,f1,f2⟩:=wt fS I h1 h2 ru rr;exact call_meets V6 ⟨_,e2,rfl⟩ PySem.F.entry_tuple_count (PySem.F.args_tuple_count_2 _ _) (SeqAt.tuple_countAt a its n2 od sl u f) ⟨e2,f1,by rw [f2];exact(I.tok _).ep (.int _ _)⟩
 ·cases h
theorem DA (hu:X.A.units+20<cLine):ur X "tuple.index" zo:=fun I rx rv h=>by
 have fS:X.A.in1.units+8<cLine:=by show X.A.units+1+8<cLine;omega
 obtain⟨p,v⟩:=I.view rx;unfold zo at h;split at h
 ·rename_i xs t
  obtain⟨⟨h1,h2⟩,h⟩:=ak h;obtain⟨u,rfl,ru⟩:=bo rv;split at h
  ·rename_i j hj
   cases h;obtain⟨a,its,rfl,⟨⟨oc,od,dt,sl⟩,e2,hc,n2,hd⟩,rr,_⟩:=I.tupP v;simp only at hc hd;subst hc hd;obtain⟨f,f1,_,f3⟩:=ny I fS h1 ru h2 rr;have hl:its.size=xs.length:=by simpa using (Q0 rr).symm
   obtain⟨j1,j2,j3⟩:=Sl.mp hj;have at_:∀m (hm:m<its.size),f its[m]=eqT (xs[m]'(by omega)) t:=fun m hm=>f3 m _ _ (Ge9 (by omega)) (by simp [hm])
   refine call_meets V7 ⟨_,e2,rfl⟩ PySem.F.entry_tuple_index (PySem.F.args_tuple_index_2 _ _) (lX a its n2 od sl u f j (by omega) (by rw [at_];exact j2) (fun m hm Ob=>?_)) ⟨e2,fun w hw=>f1 w (by simpa using hw),(I.tok _).ep (.int _ _)⟩;rw [at_];simpa using j3 m Ob
  ·cases h
 ·cases h
theorem wu {prog:RY} {w:SU} {A:RH} {P:Nat->QN->Prop} (f:Nat->Cs) (hf:∀i v,P i v->∃t,v=.str ⟨(f i).toArray⟩ t):CmpOf prog w A .Lt P (fun i j=>decide (f i<f j)):=fun i j vi vj s Q E hi hj h=>by
 obtain⟨t,rfl⟩:=hf i vi hi;obtain⟨u,rfl⟩:=hf j vj hj;have h:Q (.bool (decide ((⟨(f i).toArray⟩:Str).cps.toList<(⟨(f j).toArray⟩:Str).cps.toList))) s:=h
 exact(Xe h:QZ (model prog w) A (compareOp .Lt _ _) Q E s)
theorem wx:cR X (.builtin "min") zk:=fun {_ _ g _ s _ _ _ _} I r h=>by
 unfold zk at h;split at h
 ·cases h
  rename_i i j;obtain⟨u,v,rfl,r1,r2⟩:=ft r;cases r1;cases r2;refine min_two_ints I.ok.hd fun h' tk k=>(I.kept k).ep ?_
  by_cases hj:j<i
  ·rw [if_pos hj,if_pos hj];exact .int _ _
  ·rw [if_neg hj,if_neg hj];exact .int _ _
 ·cases h
  rename_i a b;obtain⟨u,v,rfl,r1,r2⟩:=ft r;obtain⟨t,rfl,ha⟩:=r1.gP;obtain⟨t',rfl,hb⟩:=r2.gP;have hT:(s.heap.push { cls:=.type "tuple",data:=.seq #[.str ⟨a.toArray⟩ t,.str ⟨b.toArray⟩ t'] }).IsTuple s.heap.objs.size #[.str ⟨a.toArray⟩ t,.str ⟨b.toArray⟩ t']:=⟨_,QM _ rfl,rfl,0,rfl⟩
  refine call_min_two (wpAny_pyIter_tuple hT ?_);have hsz:(s.heap.push { cls:=.type "tuple",data:=.seq #[.str ⟨a.toArray⟩ t,.str ⟨b.toArray⟩ t'] }).objs.size=s.heap.objs.size+1:=R1 ..
  refine⟨_,[_,s.heap.objs.size],[_],_,_,_,fun i j=>decide ([a,b].getD i [] < [a,b].getD j []),rfl,Walks.tuple (A:=X.A.in1) I.ok.hd _ s.heap.objs.size (by rw [hsz];exact Rc (SK _)) #[.str ⟨a.toArray⟩ t,.str ⟨b.toArray⟩ t'],
   ⟨⟨_,QM _ rfl,rfl,rfl⟩,hT.push _⟩,fun b hb=>?_,(by show 0<2;decide),wu (fun i=>[a,b].getD i []) (fun i v hP=>?_),fun v h' tk hP hk=>?_⟩
  ·show _<((s.heap.push _).push _).objs.size
   rw [R1,hsz];rcases Q5.mp hb with rfl|hb
   ·rw [hsz];exact SK _
   ·rcases Q5.mp hb with rfl|hb
    ·exact Sh (SK _)
    ·cases hb
  ·have hP:#[Vj ⟨a.toArray⟩ t,Vj ⟨b.toArray⟩ t'][i]?=some v:=hP
   match i,hP with
   | 0,hP=>exact⟨t,by simpa using hP.symm⟩
   | 1,hP=>exact⟨t',by simpa using hP.symm⟩
   | i+2,hP=>simp at hP
  ·have hold:∀c o,s.heap.get? c=some o->h'.get? c=some o:=fun c o e=>by
    refine hk c o (fun hm=>?_) (QK _ (QK _ e));rcases Q5.mp hm with e1|hm
    ·have:=Q1 e;rw [e1,hsz] at this;exact Sk _ (Nat.lt_of_succ_lt this)
    ·cases hm
   have hP:#[Vj ⟨a.toArray⟩ t,Vj ⟨b.toArray⟩ t'][argBest (fun i j=>decide ([a,b].getD i [] < [a,b].getD j [])) 1]?=some v:=hP;refine(I.kept (t':=tk) hold).ep ?_;by_cases hb':b<a
   ·rw [if_pos hb']
    have e:argBest (fun i j=>decide ([a,b].getD i [] < [a,b].getD j [])) 1=1:=by
     show(if decide (b<a)=true then 1 else 0)=1;rw [decide_eq_true hb'];rfl
    rw [e] at hP;have:Vj ⟨b.toArray⟩ t'=v:=by simpa using hP
    rw [<- this];exact .str _ _ hb
   ·rw [if_neg hb']
    have e:argBest (fun i j=>decide ([a,b].getD i [] < [a,b].getD j [])) 1=0:=by
     show(if decide (b<a)=true then 1 else 0)=0;rw [decide_eq_false hb'];rfl
    rw [e] at hP;have:Vj ⟨a.toArray⟩ t=v:=by simpa using hP
    rw [<- this];exact .str _ _ ha
 ·cases h
theorem RT.Gg {z:Str} {t:Tok} (h:z.cps.toList.length<=lim):RT g none (.str z.cps.toList) (.str z t):=by
 have:=RT.str (g:=g) z.cps.toList t h;simpa using this
theorem wy:ur X "str.strip" jY:=fun I rx rv h=>by
 unfold jY at h;split at h
 ·obtain⟨hz,h⟩:=ak h
  cases h;obtain⟨u,rfl,ru⟩:=bo rv;obtain⟨t,rfl,h1⟩:=rx.gP;obtain⟨t',rfl,h2⟩:=ru.gP;exact SC.stripChars (fun t2 k=>(I.tok _).ep (.Gg hz)) (by rw [str_len];exact h1)
 ·cases h
open Builtin Builtin.Str in
theorem wz {prog:RY} {w:SU} {A:RH} {E:QN->QP->Prop} {s:QP} {x y:Str} {t u:Tok} {Q:QN->QP->Prop} (hy:(y.length == 0)=false) (hsz:x.length<=Q9) (hsz2:(Uy x y).length<=Q9)
  (h:∀l k,l.map (·.1)=Uy x y->Q (.ref s.heap.objs.size) { s with heap:=s.heap.push { cls:=.type "list",data:=.seq (strValues l).toArray },toks:=k }) :
  QZ (model prog w) A (call (.builtin "str.split") [.str x t,.str y u]) Q E s:=by
 unfold Uy at hsz2 h;cases h1:(decide (x.length<y.length) || decide (strKind x<strKind y))
 ·rw [if_neg (ne_true_of_eq_false h1)] at hsz2 h
  cases hf:(occurrences x y 0 x.length (x.length+1)).isEmpty
  ·rw [if_neg (ne_true_of_eq_false hf)] at hsz2 h
   refine call_meets T3 (typeIs_str _ _ _) UT (UN _ _) (meets_str_split_sep x y t u h1 hy hf hsz hsz2) ?_;show wants Q E _ { s with toks:=_,heap:=s.heap.push { cls:=.type "list",data:=.seq (strsFrom s.toks (partsBetween x (occurrences x y 0 x.length (x.length+1)) y.length)).toArray } }
   rw [strsFrom_eq];exact h (numbered s.toks _) _ (numbered_texts _ _)
  ·rw [if_pos hf] at h
   exact call_meets T3 (typeIs_str _ _ _) UT (UN _ _) (meets_str_split_not_found x y t u h1 hy hf) (h [(x,t)] s.toks rfl)
 ·rw [if_pos h1] at h
  exact call_meets T3 (typeIs_str _ _ _) UT (UN _ _) (meets_str_split_cannot_occur x y t u h1) (h [(x,t)] s.toks rfl)
theorem oY:∀{l:List (Str × Tok)} {zs:List Str},l.map (·.1)=zs->(zs.all fun s=>decide (s.cps.toList.length<=lim))=true->bM g (zs.map fun s=>.str s.cps.toList) (strValues l)
 | [],_,e,_=>by subst e;exact .nil
 | (z,t)::r,_,e,h=>by
  subst e;rw [Q4,R0,QS] at h;exact .cons (.Gg (of_decide_eq_true h.1)) (oY rfl h.2)
theorem wA {fz:Bool}:ur X "str.split" (jX fz):=fun {_ _ _ _ s _ _ _ _ _ _} I rx rv h=>by
 unfold jX at h;split at h
 ·rename_i z y
  obtain⟨⟨h1,h2⟩,h⟩:=ak h;obtain⟨u,rfl,ru⟩:=bo rv;obtain⟨t,rfl,h3⟩:=rx.gP;obtain⟨t',rfl,_⟩:=ru.gP;have hz:=nf h
  refine wz (by rw [str_len];cases y with|nil=>exact absurd rfl h1|cons a b=>rfl) (by rw [str_len];exact h3) (by rw [Lm9] at hz;exact hz) fun l k e=>?_
  exact g9 (t':=k) I (oY e h2) h (fun b u e=>QK _ e) (QM _ rfl)
 ·cases h
theorem Gh (sep:Cs) (zs:List Cs):Txt.join (toS sep) (zs.map toS)=toS (jn sep zs)/\(jn sep zs).length<=(zs.map (·.length)).sum+zs.length * sep.length:=by
 have e:Txt.join (toS sep) (zs.map toS)=Str.join (toS sep) (zs.map toS):=eq_of_beq (PyProof.Rows.join_plain_closes _ _);rw [e];clear e;induction zs with
 | nil=>exact⟨rfl,by simp [jn]⟩
 | cons x r ih =>
  cases r with
  | nil=>exact⟨rfl,by simp [jn]⟩
  | cons y r =>
   obtain⟨h1,h2⟩:=ih;constructor
   ·show toS x++toS sep++Str.join (toS sep) ((y::r).map toS)=_
    rw [h1];show(⟨x.toArray++sep.toArray++(jn sep (y::r)).toArray⟩:Str)=⟨(x++sep++jn sep (y::r)).toArray⟩
    simp
   ·show(x++sep++jn sep (y::r)).length<=_
    rw [QT,QT,Q4,List.sum_cons,QX,Nat.add_mul];omega
theorem nB:∀{ys:List T} {zs:List Cs} {us:List QN},ys.mapM Fp=some zs->bM g ys us->StrsAre us (zs.map toS)
 | [],zs,us,h,r=>by simp at h;subst h;cases r;exact .nil
 | y::ys,zs,us,h,r=>by
  rw [Tw] at h;cases e1:Fp y with
  | none=>rw [e1] at h;cases h
  | some b =>
   rw [e1] at h;cases e2:ys.mapM Fp with
   | none=>rw [e2] at h;cases h
   | some q =>
    rw [e2] at h;have h:some (b::q)=some zs:=h
    cases h;cases r with
    | cons a1 a2 =>
     obtain⟨t,rfl,_⟩:=Dv e1 a1;exact .cons _ t (nB e2 a2)
theorem zX:ur X "str.join" oM:=fun {_ _ g L s _ _ w1 L1 _ _} I rx rv h=>by
 unfold oM at h;split at h
 ·rename_i sep t
  obtain⟨u,rfl,ru⟩:=bo rv;obtain⟨tk,rfl,_⟩:=rx.gP;obtain⟨p,v⟩:=I.view ru;split at h
  ·rename_i zs ez
   obtain⟨ys,y1,y2⟩:=S9.mp ez;unfold items at y1;have fin:a8 ((zs.map (·.length)).sum+zs.length * sep.length<=16777216) (R.ok (T.str (jn sep zs)) L)=.ok w1 L1->(vw L t=.lst ys\/vw L t=.tup ys)->QZ (model X.prog X.w) X.A (call (.builtin "str.join") [.str ⟨sep.toArray⟩ tk,u]) (EP X _ _ g w1 L1) F0 s:=fun h hv=>by
    obtain⟨hz,h⟩:=ak h;cases h;obtain⟨e1,e2⟩:=Gh sep zs;have hz':((zs.map toS).map (·.length)).sum+(zs.map toS).length * (toS sep).length<=16777216:=by
     have:(fun z:Cs=>(toS z).length)=fun z=>z.length:=funext fun z=>str_len
     simp only [Sb,Lm9,Vb,this];rw [show(toS sep).length=sep.length from str_len];exact hz
    have rj:∀t',RT g none (.str (jn sep zs)) (.str (Txt.join (toS sep) (zs.map toS)) t'):=fun t'=>by
     rw [e1];exact .str _ _ (Ra e2 hz)
    rcases hv with hv|hv
    ·rw [hv] at v
     obtain⟨a,its,n,rfl,e,rr,_⟩:=I.lst v;exact join_list (items:=its) (ae e) (nB y2 rr) hz' fun t' k=>(I.tok _).ep (rj t')
    ·rw [hv] at v
     obtain⟨a,its,rfl,e,rr,_⟩:=I.tupP v;exact join_tuple (items:=its) e (nB y2 rr) hz' fun t' k=>(I.tok _).ep (rj t')
   cases ev:vw L t with
   | str z=>simp only [ev] at h;cases h
   | ah z=>simp only [ev] at h;cases h
   | lst Oc=>simp only [ev] at h y1;cases y1;exact fin h (.inl ev)
   | tup Oc=>simp only [ev] at h y1;cases y1;exact fin h (.inr ev)
   | _=>simp only [ev] at y1;cases y1
  ·cases h
 ·cases h
theorem uu {P:RY} {w:SU} {A:RH} {E:QN->QP->Prop} {l b:Rm} {x y:Array QN} {n n2:Nat} {Q:QN->QP->Prop} (hl:s.heap.get? l=some { cls:=.type "list",data:=.seq x n }) (hb:s.heap.get? b=some { cls:=.type "list",data:=.seq y n2 }) (hz:x.size+y.size<=Q9)
  (h:Q (.ref l) { s with heap:=s.heap.update l (RJ fun z=>z++y) }):QZ (model P w) A (inplaceOp .Add (.ref l) (.ref b)) Q E s:=by
 have hT:s.TypeIs (.ref l) "list":=⟨_,hl,rfl⟩;have q:=WC.lookup
 have f1:fillsInplaceSlot (.type "list") "add" (Operator.Add == .Add)=pure false:=by
  unfold fillsInplaceSlot;show(typeLookup (.type "list") (dunderI "add") >>= fun fi=>pure (fi.isSome && !isSeqSlot fi))=pure false
  rw [q];rfl
 have f2:seqSlot? (.type "list") (dunderI "add")=pure (some (.builtin "list.__iadd__")):=by
  unfold seqSlot?;rw [q];rfl
 unfold inplaceOp;refine wpAny_holding (QJ (wpAny_typeOf hT (QJ (wpAny_of_eq f1 ?_))));rw [if_neg RC];refine QJ (wpAny_binaryOp1_none (nm:="add") hT ⟨_,hb,rfl⟩ noFill_list_add ?_);refine QJ (wpAny_of_eq f2 (QJ (wpAny_rule ?_)));have z1:¬(!x.isEmpty && SD (x.size+y.size))=true:=by
  have:SD (x.size+y.size)=false:=decide_eq_false (by omega);rw [this,UB];exact RC
 exact call_meets WC hT PySem.F.entry_list_iadd (PySem.F.args_list_iadd_2 _ _) (PySem.AutoSeq1.list___iadd___list_list_0 l x n b y n2 z1 (by omega) (by omega)) ⟨hl,hb,h⟩
theorem wB {op:Operator}:vE X (inplaceOp op) (ag op):=fun I rx ry h=>by
 unfold ag at h;split at h
 ·obtain⟨_,rfl⟩:=rx.iI;obtain⟨_,rfl⟩:=ry.iI;cases h;exact iadd_int ((I.tok _).ep (.int _ _))
 ·obtain⟨_,rfl⟩:=rx.iI;obtain⟨_,rfl⟩:=ry.iI;cases h;exact isub_int ((I.tok _).ep (.int _ _))
 ·split at h
  ·rename_i n y xs ys ea ev
   obtain⟨hz,h⟩:=ak h;cases h;obtain⟨p,vy⟩:=I.view ry;rw [ev] at vy;obtain⟨b,i2,n2,rfl,e2,r2,z2⟩:=I.lst vy;obtain⟨a,its,cnt,rfl,e,rr,hl,_⟩:=I.mG rx ea;have l1:=Q0 rr
   have l2:=Q0 r2;refine uu e e2 (by simp at l1 l2;have:xs.length+ys.length<=Q9:=hz;omega) ?_;obtain⟨g',l,J,_⟩:=I.lU (t':=_) (f:=fun z=>z++i2) ea rx e (by simpa using rr.app r2) (by simpa using (show xs.length+ys.length<=Q9 from hz));exact⟨g',l,J,rx.le l⟩
  ·cases h
 ·cases h
end
instance Od:DecidableEq T:=fun a b=>Sd _
mutual
noncomputable def dr:T->Nat
 | .tup xs=>vb xs+1
 | _=>1
noncomputable def vb:List T->Nat
 | []=>0
 | x::xs=>dr x+vb xs
end
inductive bY (h:Heap):T->QN->Prop
 | int (i t):bY h (.int i) (.int i t)
 | bl (b):bY h (.bl b) (.bool b)
 | str (s t):bY h (.str s) (.str ⟨s.toArray⟩ t)
 | tup {a o its n xs} (ho:h.get? a=some o) (hc:o.cls=.type "tuple") (hd:o.data=.seq its n) (hl:xs.length=its.size) (hi:∀(i:Nat) x v,xs[i]?=some x->its[i]?=some v->bY h x v):bY h (.tup xs) (.ref a)
section
variable {X:Cx} {pins:aJ} {φ:Fr} {g:G} {L L':aa} {s:QP} {h h':Heap} {xs ys:List T} {t t2:T} {u v:QN} {n:Nat} {a d:Rm} {P:RY} {w:SU} {A:RH} {E:QN->QP->Prop}
theorem JG {t:T} (h:kh 0 t=true):False:=by cases t <;> cases h
theorem wC (hk:xs.all (kh n)=true) {i:Nat} {x:T} (e:xs[i]?=some x):kh n x=true:=QO.mp hk x (RM e)
theorem kr:∀(n:Nat) {t:T},kd n t=true->kh n t=true
 | 0,t,h=>by cases t <;> cases h
 | n+1,t,h=>by
  cases t with
  | tup xs=>exact QO.mpr fun x hx=>kr n (QO.mp h x hx)
  | bl b=>cases h
  | _=>exact h
theorem IL {t:T} (h:kd 0 t=true):False:=by cases t <;> cases h
theorem iJ (hk:xs.all (kd n)=true) {i:Nat} {x:T} (e:xs[i]?=some x):kd n x=true:=QO.mp hk x (RM e)
theorem Inv.JH (I:Inv X pins φ g L s):∀(n:Nat) {t:T} {u:QN},kh n t=true->RT g none t u->bY s.heap t u
 | 0,t,_,h,_=>(JG h).elim
 | n+1,t,u,h,r=>by
  cases r with
  | int i t=>exact .int i t
  | bl b=>exact .bl b
  | str z t hz=>exact .str z t
  | tup hk hc hd hz hl hi=>exact .tup (I.kn hk) hc.1 hd hl fun i x v e1 e2=>I.JH n (wC h e1) (hi i x v e1 e2)
  | _=>cases h
theorem Inv.Fy (I:Inv X pins φ g L s) (n:Nat) {t:T} {u:QN} (h:kd n t=true) (r:RT g none t u):bY s.heap t u:=I.JH n (kr n h) r
theorem bY.same (k1:bY h t u):∀{t2:T},bY h t2 u->t=t2:=by
 induction k1 with
 | int i t=>intro t2 k;cases k;rfl
 | bl b=>intro t2 k;cases k;rfl
 | str z t =>
  intro t2 k;generalize hv:Vj ⟨z.toArray⟩ t=v at k;cases k <;> cases hv;rfl
 | tup ho hc hd hl hi ih =>
  rename_i a o its nn xs;intro t2 k;cases k with
  | tup ho' hc' hd' hl' hi' =>
   rw [ho] at ho';cases ho';rw [hd] at hd';cases hd';congr 1;refine Sx (by omega) fun i h1 h2=>?_
   have e:=QU (xs:=its) (i:=i) (by omega);exact ih i _ _ (Ge9 h1) e (hi' i _ _ (Ge9 h2) e)
theorem bY.keeps {o:Obj} {es:Array DictEntry} {ep:Nat} (k:bY h t u) (ho:h.get? d=some o) (hd:o.data=.dict es ep) (hs:Ss d h h'):bY h' t u:=by
 induction k with
 | int i t=>exact .int i t
 | bl b=>exact .bl b
 | str z t=>exact .str z t
 | tup ho' hc hd' hl hi ih =>
  refine .tup ((hs.2 _ fun e=>?_).trans ho') hc hd' hl ih;rw [e,ho] at ho';cases ho';rw [hd] at hd';cases hd'
theorem sT:∀xs:List T,yV w xs=xs.map (hT w)
 | []=>by rw [yV];rfl
 | x::xs=>by rw [yV,sT xs];rfl
theorem oZ:∀(xs:List T) (i:Nat) (x:T),xs[i]?=some x->vb (xs.take (i+1))=vb (xs.take i)+dr x
 | x::xs,0,y,h=>by cases h;simp [vb]
 | x::xs,i+1,y,h=>by
  rw [Xf,Xf,vb,vb,oZ xs i y (by simpa using h)];omega
theorem uw {b:Bool} {Q:Int->QP->Prop} (h:Q (hashInt (if b=true then 1 else 0)) { s with toks:=s.toks+1 }):QZ (model P w) A (pyHash (.bool b)) Q E s:=by
 have hr:=rawHash_range (if b=true then 1 else 0);have hT:s.TypeIs (.bool b) "bool":=PySem.typeIs_bool s b
 unfold pyHash;refine QJ ?_;rw [cRoomFor,if_neg (show ¬ ([Value.bool b].any Value.onHeap=true) from RC)];refine QL (QJ (wpAny_specialOf hT T4.lookup ?_));show QZ _ _ (if (some (UU "int.__hash__") == some RG)=true then _ else _) Q E s
 rw [if_neg (by rw [beq_builtin_none];exact RC)];refine QJ (wpAny_specialOf hT T4.lookup ?_);show QZ _ _ (callSpecialIfBoundUnlessNone? (.bool b) "__hash__" _ >>= _) Q E s
 refine QJ (wpAny_callSpecialIfBoundUnlessNone?_slot hT T4
  (wpAny_call_entry T4 hT entry_int_hash
   (show QZ _ _ (do PySem.ret (<- mkInt (rawHash (if b=true then 1 else 0)))) _ _ s from wpAny_ret_mkInt ?_) (args_int_hash _)))
 show QZ _ _ (if (decide (-(2:Int) ^ 63<=rawHash (if b=true then 1 else 0)) && decide (rawHash (if b=true then 1 else 0)<2 ^ 63))=true then _ else _) Q E _;rw [if_pos (by rw [decide_eq_true hr.1,decide_eq_true hr.2];rfl)];exact QL h
theorem bY.hash:∀(n:Nat) {A:RH} {s:QP} {t:T} {u:QN} {Q:Int->QP->Prop},kh n t=true->A.units+n<cLine->bY s.heap t u->Q (hT w t) { s with toks:=s.toks+dr t }->QZ (model P w) A (pyHash u) Q E s
 | 0,_,_,t,_,_,hk,_,_,_=>(JG hk).elim
 | n+1,A,s,t,u,Q,hk,hu,k,h=>by
  cases k with
  | bl b=>rw [hT,dr] at h;exact uw h;all_goals (intro _ z;cases z)
  | int i t=>rw [hT,dr] at h;exact wpAny_pyHash_int h;all_goals (intro _ z;cases z)
  | str z t=>rw [hT,dr] at h;exact wpAny_pyHash_str h;all_goals (intro _ z;cases z)
  | tup ho hc hd hl hi =>
   rename_i a o its nn xs;have hT':s.TypeIs (.ref a) "tuple":=⟨o,ho,hc⟩
   unfold pyHash
   first|unfold pyHashByItsType|skip
   first|refine QJ (wpAny_cRoomFor_or (.inr (by omega)) ?_)|skip
   refine QJ (wpAny_specialOf hT' T6.lookup ?_);show QZ _ _ (if (some (UU "tuple.__hash__") == some RG)=true then _ else _) Q E s
   rw [if_neg (by rw [beq_builtin_none];exact RC)];refine QJ (wpAny_specialOf hT' T6.lookup ?_);show QZ _ _ (callSpecialIfBoundUnlessNone? (.ref a) "__hash__" _ >>= _) Q E s
   refine QJ (wpAny_callSpecialIfBoundUnlessNone?_slot hT' T6 (wpAny_call_entry T6 hT' F.entry_tuple_hash ?_ (F.args_tuple_hash_1 _)));show QZ _ _ (Us (.ref a) >>= _) _ _ s
   refine QJ (wpAny_tupleItemsOf ho hd ?_);refine QJ ?_;rw [<- T7];refine wpAny_forIn_list _ (fun rest (b:Array Int) s'=>∃i,i<=xs.length/\rest=its.toList.drop i/\b.toList=(xs.take i).map (hT w)/\s'={ s with toks:=s.toks+vb (xs.take i) }) _ ?_ ?_ _ _ ⟨0,Rf _,rfl,by simp,by simp [vb]⟩
   ·rintro v rest b s' ⟨i,vc,hr,hb,rfl⟩
    have bL:i<its.size:=by
     rcases WS i its.size with z|z
     ·exact z
     ·rw [U5 (by simpa using z)] at hr;cases hr
    rw [Su (by simpa using bL)] at hr;injection hr with e1 e2;have ex:=Ge9 (l:=xs) (i:=i) (by omega)
    have kv:bY s.heap xs[i] v:=hi i _ v ex (by rw [e1];simp [bL]);refine QJ (bY.hash n (s:={ s with toks:=s.toks+vb (xs.take i) }) (wC hk ex) (by show A.units+1+n<cLine;omega) kv ?_);have fin:∃j,j<=xs.length/\rest=its.toList.drop j/\(b.push (hT w xs[i])).toList=(xs.take j).map (hT w)/\({ s with toks:=s.toks+vb (xs.take i)+dr xs[i] }:QP)={ s with toks:=s.toks+vb (xs.take j) } :=
     ⟨i+1,by omega,e2,by rw [Xb,ex,Rg,V8,hb];rfl,by rw [oZ xs i _ ex,Ul]⟩
    first
     | exact QL fin
     | exact QJ (QL (QL fin))
   ·rintro b s' ⟨i,vc,hr,hb,rfl⟩
    have vd:its.size<=i:=by
     have:=congrArg Th hr;rw [Ru,Sm] at this;simp at this;omega
    rw [RX (by omega)] at hb;show QZ _ _ (retInt (Uz b.toList)) _ _ _
    rw [hb,RX (show xs.length<=i by omega)];refine wpAny_ret_mkInt ?_;rw [hT,sT,dr] at h;generalize Uz (xs.map (hT w))=g at h;show QZ _ _ (if (decide (-(2:Int) ^ 63<=g) && decide (g<2 ^ 63))=true then _ else _) Q E _
    unfold reduceHash at h;by_cases hr:(decide (-(2:Int) ^ 63<=g) && decide (g<2 ^ 63))=true
    ·rw [if_pos hr]
     rw [if_pos hr] at h;exact QL (by simpa [Ul] using h)
    ·rw [if_neg hr]
     rw [if_neg hr] at h;exact QJ (wpAny_rule (QL (by simpa [Ul] using h)))
theorem bY.quiet:∀(n m:Nat) {s:QP} {t:T} {u:QN},kh n t=true->n<=m->bY s.heap t u->QZ (model P w) A (eqIsQuiet m u) (fun b s'=>b=true/\s'=s) E s
 | 0,_,_,t,_,hk,_,_=>(JG hk).elim
 | n+1,m,s,t,u,hk,hm,k=>by
  cases k with
  | bl b=>cases m with
   | zero=>omega
   | succ m=>exact QL ⟨rfl,rfl⟩
  | int i t=>cases m with
   | zero=>omega
   | succ m=>exact QL ⟨rfl,rfl⟩
  | str z t=>cases m with
   | zero=>omega
   | succ m=>exact QL ⟨rfl,rfl⟩
  | tup ho hc hd hl hi =>
   rename_i a o its nn xs;have hT':s.TypeIs (.ref a) "tuple":=⟨o,ho,hc⟩
   obtain⟨m,rfl⟩:∃k,m=k+1:=⟨m - 1,by omega⟩;unfold eqIsQuiet;refine QJ (wpAny_specialOf hT' F.slot_tuple_eq.lookup ?_);show QZ _ _ (isInstance (.ref a) (.type "tuple") >>= _) _ _ s
   refine QJ (wpAny_isInstance hT' isSubtype_tuple_tuple ?_);simp only [SV,QW,if_false];refine QJ (wpAny_seqItems ho hd ?_);refine QJ ?_;show QZ _ _ (forIn its _ _) _ _ s
   rw [<- T7];refine wpAny_forIn_list _ (fun rest r s'=>r.1=none/\s'=s/\∀v∈rest,v∈its) _ ?_ ?_ _ _ ⟨rfl,rfl,fun v hv=>by simpa using hv⟩
   ·rintro v rest r s' ⟨hr,rfl,hall⟩
    obtain⟨i,vc,rfl⟩:=TF (hall v QR);have ex:=Ge9 (l:=xs) (i:=i) (by omega)
    refine QJ (wpAny_mono (bY.quiet n m (wC hk ex) (by omega) (hi i _ _ ex (QU vc))) (fun b zU hb=>?_) fun _ _ e=>e);obtain⟨rfl,rfl⟩:=hb;simp only [SV,QW,if_false];exact QL ⟨rfl,rfl,fun u fS=>hall u (QV _ fS)⟩
   ·rintro⟨r1,r2⟩ s' ⟨hr,rfl,_⟩
    simp only at hr;subst hr;exact QL ⟨rfl,rfl⟩
theorem sU:∀xs ys:List T,jx (fun a b=>decide (a=b)) xs ys=decide (xs=ys)
 | [],[]=>by simp [jx]
 | [],_::_=>by simp [jx]
 | _::_,[]=>by simp [jx]
 | x::xs,y::ys=>by rw [jx,sU xs ys];simp [Bool.decide_and]
open SeqAt in
theorem bY.eq:∀(n:Nat) {A:RH} {a b:T} {u v:QN},kd n a=true->kd n b=true->A.units+n<cLine->bY s.heap a u->bY s.heap b v->EqAt A s u v (decide (a=b))
 | 0,_,a,_,_,_,h,_,_,_,_=>(IL h).elim
 | n+1,A,a,b,u,v,ha,hb,hu,ka,kb=>by
  have fS:A.units<cLine:=by omega
  have sm:u=v->decide (a=b)=true:=fun e=>decide_eq_true (ka.same (by rw [e];exact kb))
  cases ka with
  | bl=>cases ha
  | int i t =>
   cases kb with
   | bl=>cases hb
   | int j t2=>rw [show decide (T.int i=T.int j)=(i == j) by rw [R6];simp];exact .int_int _ _ _ _
   | str=>rw [decide_eq_false (by intro e;cases e)];exact .int_str _ _ _ _
   | tup ho hc hd hl hi=>rw [decide_eq_false (by intro e;cases e)];exact .int_tuple _ _ ⟨_,ho,hc,_,hd⟩ fS
  | str z t =>
   cases kb with
   | bl=>cases hb
   | int=>rw [decide_eq_false (by intro e;cases e)];exact .str_int _ _ _ _
   | str z2 t2=>rw [show decide (T.str z=T.str z2)=(z == z2) by rw [R6];simp,<- str_beq];exact .str_str _ _ _ _
   | tup ho hc hd hl hi=>rw [decide_eq_false (by intro e;cases e)];exact .str_tuple _ _ ⟨_,ho,hc,_,hd⟩ fS
  | tup ho hc hd hl hi =>
   have T1:s.heap.IsTuple _ _:=⟨_,ho,hc,_,hd⟩;cases kb with
   | bl=>cases hb
   | int=>rw [decide_eq_false (by intro e;cases e)];exact .tuple_int _ _ T1 fS
   | str=>rw [decide_eq_false (by intro e;cases e)];exact .tuple_str _ _ T1 fS
   | tup ho' hc' hd' hl' hi' =>
    rename_i a1 o1 i1 n1 x1 a2 o2 i2 n2 x2;have:=RcAt.tuples (e:=fun j=>decide (x1.getD j .bj=x2.getD j .bj)) T1 ⟨_,ho',hc',_,hd'⟩ fS fun j j1 j2 =>
     bY.eq n (iJ ha (getD_at (by omega))) (iJ hb (getD_at (by omega))) (by show A.units+1+n<cLine;omega) (hi j _ _ (getD_at (by omega)) (QU j1)) (hi' j _ _ (getD_at (by omega)) (QU j2))
    rw [<- hl,<- hl',eR (f:=fun a b=>decide (a=b)),sU] at this;rw [show decide (T.tup x1=T.tup x2)=decide (x1=x2) by rw [R6];simp];exact(both this fun e=>by have:=sm (by rw [e]);simpa using this).2
def BB (P:RY) (w:SU):HeapKind P w T where
 is:=fun h k a=>bY h k (.ref a)/\kd 7 k=true
 hash:=hT w
 draws:=dr
 room:=fun A=>A.units+8<cLine
 inj:=fun a b=>a.1.same b.1
 keeps:=fun k ho hd hs=>⟨k.1.keeps ho hd hs,k.2⟩
 pyHash:=fun hu k h=>bY.hash 7 (kr 7 k.2) (by omega) k.1 h
 eqBool:=fun hu a b h=>bY.eq 7 a.2 b.2 (by omega) a.1 b.1 _ _ _ _ h
 quiet:=fun k h=>wpAny_mono (bY.quiet 7 8 (kr 7 k.2) (by omega) k.1) (fun b s' hb=>by obtain⟨rfl,rfl⟩:=hb;exact h) fun _ _ e=>e
end
end M
namespace M
open PySem PySem.Spec PyProof.Rows
noncomputable def zY:T->QN->Bool
 | .int i,.int j _=>i == j
 | .str z,.str x _=>x == ⟨z.toArray⟩
 | _,_=>false
theorem eH {k:T} {v:QN} (h:zY k v=true):(∃i t,k=.int i/\v=.int i t)\/∃z t,k=.str z/\v=.str ⟨z.toArray⟩ t:=by
 unfold zY at h;split at h
 ·exact .inl ⟨_,_,rfl,by rw [eq_of_beq h]⟩
 ·exact .inr ⟨_,_,rfl,by rw [eq_of_beq h]⟩
 ·cases h
theorem toA {z z':Cs} (e:(⟨z.toArray⟩:Str)=⟨z'.toArray⟩):z=z':=by simpa using congrArg (fun x:Str=>x.cps.toList) e
def iK (P:RY) (w:SU):KeyKind P w T where
 is:=zY
 hash:=hT w
 inj:=fun v a b ha hb=>by
  rcases eH ha with⟨i,t,rfl,rfl⟩|⟨z,t,rfl,rfl⟩
  ·rcases eH hb with⟨j,t',rfl,e⟩|⟨z',t',rfl,e⟩
   ·injection e with e1 _;rw [e1]
   ·cases e
  ·rcases eH hb with⟨j,t',rfl,e⟩|⟨z',t',rfl,e⟩
   ·cases e
   ·injection e with e1 _;rw [toA e1]
 byValue:=fun k v h=>by rcases eH h with⟨i,t,rfl,rfl⟩|⟨z,t,rfl,rfl⟩ <;> rfl
 pyHash:=fun h q=>by
  rcases eH h with⟨i,t,rfl,rfl⟩|⟨z,t,rfl,rfl⟩
  ·rw [hT] at q;exact wpAny_pyHash_int q
  ·rw [hT] at q;exact wpAny_pyHash_str q
 eqBool:=fun {A E s a b u v Q} ha hb q=>by
  rcases eH ha with⟨i,t,rfl,rfl⟩|⟨z,t,rfl,rfl⟩
  ·rcases eH hb with⟨j,t',rfl,rfl⟩|⟨z',t',rfl,rfl⟩
   ·rw [show decide (T.int i=T.int j)=(i == j) by rw [R6];simp] at q;exact wpAny_eqBool_int q
   ·rw [decide_eq_false (by intro e;cases e)] at q;exact SeqAt.EqAt.int_str _ _ _ _ _ _ _ _ q
  ·rcases eH hb with⟨j,t',rfl,rfl⟩|⟨z',t',rfl,rfl⟩
   ·rw [decide_eq_false (by intro e;cases e)] at q;exact SeqAt.EqAt.str_int _ _ _ _ _ _ _ _ q
   ·rw [show decide (T.str z=T.str z')=(z == z') by rw [R6];simp,<- str_beq] at q;exact SeqAt.EqAt.str_str _ _ _ _ _ _ _ _ q
 «strs»:=fun k x t v h=>by
  rcases eH h with⟨i,t',rfl,e⟩|⟨z,t',rfl,e⟩
  ·cases e
  ·injection e with e1 _
   subst e1;cases v <;> rfl
def pl (ks:List (T × T)) (y:T):Option Nat:=ks.findIdx? fun p=>decide (p.1=y)
section
variable {X:Cx} {pins:aJ} {φ:Fr} {g:G} {L L':aa} {s:QP} {ks:List (T × T)} {t y x:T} {u v:QN} {n:Nat} {a d:Rm} {A:RH} {q:Option (Rm × Rm)} {E:QN->QP->Prop}
theorem nC (h:qE t=true) (r:RT g none t u):zY t u=true:=by
 cases r <;> first|cases h|skip
 ·exact beq_self_eq_true _
 ·exact beq_self_eq_true _
theorem sW (I:Inv X pins φ g L s) (h:FN t=true) (r:RT g none t u):∃a,u=.ref a/\bY s.heap t u/\kd 7 t=true:=by
 cases t <;> first|cases h|skip
 have k:kd 7 (.tup _)=true:=h;have z:=I.Fy 7 k r
 cases z with
 | tup ho hc hd hl hi=>exact⟨_,rfl,.tup ho hc hd hl hi,k⟩
theorem Gi {P:RY} {w:SU} {b:Rm} {o:Obj} {ep:Nat} {hs:Int} {Q:Option Nat->QP->Prop} (ho:s.heap.get? a=some o) (hd:o.data=.dict #[] ep) (h:Q none s):QZ (model P w) A (dictFind a (.ref b) hs) Q E s:=by
 unfold dictFind
 try with_reducible refine wpAny_holding ?_
 refine QJ (wpAny_dictEntries ho hd ?_);dsimp only;rw [if_neg (by simp [carriedByValue]),if_neg (by simp)];have e0:placesWithHash (#[]:Array DictEntry).size (fun i=>(#[]:Array DictEntry)[i]?.map (·.hash)) hs=[]:=by unfold placesWithHash;simp
 rw [e0];exact QJ (QL (QJ (QL (QL h))))
structure bG (X:Cx) (g:G) (s:QP) (ks:List (T × T)) (a:Rm) (o:Obj) (es:Array DictEntry) (ep:Nat):Prop where
 ho:s.heap.get? a=some o
 hx:o.ExactDict
 hd:o.data=.dict es ep
 hz:ks.length<=Q9
 hl:ks.length=es.size
 hn:(ks.map (·.1)).Nodup
 hm:fm (ks.map (·.1))=true
 hs:(a == sysModules)=false
 hh:∀(i:Nat) x e,ks[i]?=some x->es[i]?=some e->e.hash=hT X.w x.1
 h1:∀(i:Nat) x e,ks[i]?=some x->es[i]?=some e->RT g none x.1 e.key
 h2:∀(i:Nat) x e,ks[i]?=some x->es[i]?=some e->RT g none x.2 e.val
theorem Inv.ah (I:Inv X pins φ g L s) (r:RT g q (.ah ks) u):∃a o es ep,u=.ref a/\qH q a a/\g.kn q.isNone a o/\bG X g s ks a o es ep:=by
 cases r with
 | ah ht hk hx hd hz hl hn hs hh h1 h2=>exact⟨_,_,_,_,rfl,ht,hk,I.kn hk,hx,hd,hz,hl,hn.1,hn.2,hs,by rw [<- I.gw];exact hh,h1,h2⟩
theorem bG.at (D:bG X g s ks a o es ep) {i:Nat} {p:T × T} (h:ks[i]?=some p):∃e,es[i]?=some e:=by
 have:=(Q2.mp h).1;exact⟨_,QU (by rw [<- D.hl];exact this)⟩
theorem bG.find (D:bG X g s ks a o es ep) (I:Inv X pins φ g L s) (hu:A.units+8<cLine) (hf:dJ ks y) (ry:RT g none y v) :
  ∃n,(∀(Q:Int->QP->Prop) (E:QN->QP->Prop),Q (hT X.w y) { s with toks:=s.toks+n }->QZ (model X.prog X.w) A (pyHash v) Q E s) /\
   ∀(tk:Nat) (Q:Option Nat->QP->Prop) (E:QN->QP->Prop),Q (pl ks y) { s with toks:=tk }->QZ (model X.prog X.w) A (dictFind a v (hT X.w y)) Q E { s with toks:=tk }:=by
 unfold dJ fm at hf;rw [S1,S1] at hf;rcases hf with(hf|hf)|hf
 ·rw [R0,QS] at hf
  have hv:=nC hf.1 ry;have sc:∀(i:Nat) p e,ks[i]?=some p->es[i]?=some e->zY p.1 e.key=true:=fun i p e e1 e2 =>
   nC (QO.mp hf.2 _ (Ry (RM e1))) (D.h1 i p e e1 e2)
  refine⟨1,fun Q E hq=>(iK X.prog X.w).pyHash hv hq,fun tk Q E hq=>?_⟩;refine wpAny_dictFind_of (knd:=iK X.prog X.w) (s:={ s with toks:=tk }) hv D.ho D.hd (fun e he=>?_) ?_
  ·obtain⟨i,hi,rfl⟩:=TF he
   have e1:=Ge9 (l:=ks) (i:=i) (by rw [D.hl];exact hi);exact⟨_,sc i _ _ e1 (QU hi),D.hh i _ _ e1 (QU hi)⟩
  ·have e:(es.findIdx? fun e=>(iK X.prog X.w).is y e.key)=pl ks y:=by
    obtain⟨es⟩:=es;rw [List.findIdx?_toArray];unfold pl;have go:∀(l:List DictEntry) (ks:List (T × T)),ks.length=l.length->(∀(i:Nat) p e,ks[i]?=some p->l[i]?=some e->zY p.1 e.key=true)->(l.findIdx? fun e=>(iK X.prog X.w).is y e.key)=ks.findIdx? fun p=>decide (p.1=y):=fun l=>by
     induction l with
     | nil=>intro ks hl _;cases ks with
      | nil=>rfl
      | cons _ _=>cases hl
     | cons e l ih=>intro ks hl h;cases ks with
      | nil=>cases hl
      | cons p ks =>
       rw [VL,VL,ih ks (by simpa using hl) (fun i p e e1 e2=>h (i+1) p e (by simpa using e1) (by simpa using e2)),KeyKind.is_eq_decide (knd:=iK X.prog X.w) (h 0 p e rfl rfl) y];rw [show decide (y=p.1)=decide (p.1=y) by rw [R6];simp [eq_comm]]
    exact go es ks (by simpa using D.hl) fun i p e e1 e2=>sc i p e e1 (by simpa using e2)
   rw [e];exact hq
 ·rw [R0,QS] at hf
  obtain⟨b,rfl,kb,db⟩:=sW I hf.1 ry;refine⟨dr y,fun Q E hq=>(BB X.prog X.w).pyHash hu ⟨kb,db⟩ hq,fun tk Q E hq=>?_⟩;have ex:∃xs:List (T × Rm × QN),xs.length=ks.length/\∀(i:Nat) p e,ks[i]?=some p->es[i]?=some e->∃c,xs[i]?=some (p.1,c,e.val)/\e.key=.ref c/\bY s.heap p.1 (.ref c)/\kd 7 p.1=true:=by
   refine⟨(ks.zip es.toList).map fun z=>(z.1.1,(match z.2.key with|.ref c=>c|_=>0),z.2.val),by simp [D.hl],fun i p e e1 e2=>?_⟩;obtain⟨c,ec,kc,dc⟩:=sW I (QO.mp hf.2 _ (Ry (RM e1))) (D.h1 i p e e1 e2);refine⟨c,?_,ec,by rw [<- ec];exact kc,dc⟩;have ez:(ks.zip es.toList)[i]?=some (p,e):=List.getElem?_zip_eq_some.mpr ⟨e1,by simpa using e2⟩
   rw [Rd,ez];show some (p.1,(match e.key with|.ref c=>c|_=>0),e.val)=_
   rw [ec]
  obtain⟨xs,Mt,Mu⟩:=ex;have IM:∀(i:Nat) z,xs[i]?=some z->∃p e,ks[i]?=some p/\es[i]?=some e/\z=(p.1,z.2.1,e.val)/\e.key=.ref z.2.1/\bY s.heap p.1 (.ref z.2.1)/\kd 7 p.1=true:=fun i z hz=>by
   have hi:=(Q2.mp hz).1;have e1:=Ge9 (l:=ks) (i:=i) (by omega)
   obtain⟨e,e2⟩:=D.at e1;obtain⟨c,c1,c2,c3,c4⟩:=Mu i _ e e1 e2;rw [hz] at c1;cases c1;exact⟨_,e,e1,e2,rfl,c2,c3,c4⟩
  have keys:xs.map (·.1)=ks.map (·.1):=Sx (by simp [Mt]) fun i h1 h2=>by
   rw [Tq,Tq];have hi:i<xs.length:=by simpa using h1
   obtain⟨p,e,e1,_,e3,_⟩:=IM i _ (Ge9 hi);have:=(Q2.mp e1).2
   rw [e3,<- this]
  have Oe:∀(j:Nat) (p:Rm × QN),xs[j]?=some (y,p)->pl ks y=some j:=fun j p hj=>by
   obtain⟨p',e,e1,_,e3,_⟩:=IM j _ hj;have ey:p'.1=y:=by injection e3 with e4;exact e4.symm
   obtain⟨Of,Og⟩:=Q2.mp e1;refine Sl.mpr ⟨Of,by rw [Og];exact decide_eq_true ey,fun i hi=>?_⟩;have ne:¬ ks[i].1=y:=fun z=>by
    have h1:(ks.map (·.1))[i]?=some y:=by rw [Rd,Ge9 (by omega)];exact congrArg some z
    have h2:(ks.map (·.1))[j]?=some y:=by rw [Rd,e1];exact congrArg some ey
    have:=(List.getElem?_inj (by simp;omega) D.hn).mp (h1.trans h2.symm);omega
   simpa using ne
  refine wpAny_dictFind_heap (knd:=BB X.prog X.w) (xs:=xs) (s:={ s with toks:=tk }) hu ⟨kb,db⟩ D.ho D.hd ?_ (fun z hz=>?_) (by rw [keys];exact D.hn) (fun jm=>?_) fun j p hj=>?_
  ·refine Sx (by simp [Mt,D.hl]) fun i h1 h2=>?_
   have hi:i<xs.length:=by simpa using h2
   obtain⟨p,e,e1,e2,e3,e4,_⟩:=IM i _ (Ge9 hi);rw [Tq];have Gj:es.toList[i]=e:=by
    have:=(Ut.mp e2).2;simpa using this
   rw [Gj];have Gk:=D.hh i p e e1 e2
   rw [e3];show e=⟨hT X.w p.1,.ref xs[i].2.1,e.val⟩
   rw [<- e4,<- Gk]
  ·obtain⟨i,hi,rfl⟩:=SQ hz
   obtain⟨p,e,_,_,e3,_,e5,e6⟩:=IM i _ (Ge9 hi);rw [e3];exact⟨e5,e6⟩
  ·have:pl ks y=none:=by
    refine VW.mpr fun p hp=>?_
    obtain⟨i,hi,rfl⟩:=SQ hp;obtain⟨e,e2⟩:=D.at (Ge9 hi);obtain⟨c,c1,_⟩:=Mu i _ e (Ge9 hi) e2;refine decide_eq_false fun z=>jm i (c,e.val) ?_
    rw [c1,z]
   rw [this] at hq;exact hq
  ·rw [Oe j p hj] at hq;exact hq
 ·rw [QS,R0,QS] at hf
  obtain rfl:ks=[]:=by simpa using hf.1
  obtain rfl:es = #[]:=SN.mp D.hl.symm;cases y with
  | tup xs =>
   have k:kh 7 (.tup xs)=true:=hf.2.1;have z:=I.JH 7 k ry
   obtain⟨b,o,its,n,rfl,_⟩:=ry.tI.2;exact⟨dr (.tup xs),fun Q E hq=>bY.hash 7 k (by omega) z hq,fun tk Q E hq=>Gi (s:={ s with toks:=tk }) D.ho D.hd hq⟩
  | _=>cases hf.2.1
end
section
variable {X:Cx} {pins:aJ} {φ:Fr} {g:G} {L L':aa} {s:QP} {ks:List (T × T)} {t y x w:T} {u v:QN} {n:Nat} {a d:Rm} {A:RH} {q:Option (Rm × Rm)} {E:QN->QP->Prop} {o:Obj} {es:Array DictEntry} {ep:Nat}
theorem nE {i:Nat} (h:pl ks y=some i):∃p,ks[i]?=some p/\p.1=y/\dh ks y=some p.2:=by
 obtain⟨h1,h2,h3⟩:=Sl.mp h;refine⟨ks[i],Ge9 h1,of_decide_eq_true h2,?_⟩;have:(ks.find? fun p=>decide (p.1=y))=some ks[i]:=by
  rw [List.find?_eq_some_iff_getElem];exact⟨h2,i,h1,rfl,fun j hj=>by simpa using h3 j hj⟩
 unfold dh;rw [show(ks.find? fun p=>@decide (p.1=y) (Sd _))=some ks[i] from this];rfl
theorem nF (h:pl ks y=none):dh ks y=none/\∀p∈ks,p.1≠y:=by
 have h':=VW.mp h;have h2:∀p∈ks,p.1≠y:=fun p hp=>of_decide_eq_false (h' p hp)
 refine⟨?_,h2⟩;have:(ks.find? fun p=>decide (p.1=y))=none:=List.find?_eq_none.mpr fun p hp=>by simpa using h2 p hp
 unfold dh;rw [show(ks.find? fun p=>@decide (p.1=y) (Sd _))=none from this];rfl
noncomputable def Gm (g:G) (o:Option QN) (x:Option T):Prop:=(o=none/\x=none)\/∃u t,o=some u/\x=some t/\RT g none t u
theorem bG.val (D:bG X g s ks a o es ep):Gm g ((pl ks y).bind fun i=>es[i]?.map (·.val)) (dh ks y):=by
 cases e:pl ks y with
 | none=>exact .inl ⟨rfl,(nF e).1⟩
 | some i =>
  obtain⟨p,p1,p2,p3⟩:=nE e;obtain⟨d,d1⟩:=D.at p1;exact .inr ⟨d.val,p.2,by rw [Tr,d1];rfl,p3,D.h2 i p d p1 d1⟩
theorem bG.get (D:bG X g s ks a o es ep) (I:Inv X pins φ g L s) (hu:A.units+8<cLine) (hf:dJ ks y) (ry:RT g none y v) {Q:Option QN->QP->Prop} (h:∀tk u,Gm g u (dh ks y)->Q u { s with toks:=tk }):QZ (model X.prog X.w) A (dictGet a v) Q E s:=by
 obtain⟨n,h1,h2⟩:=D.find I hu hf ry;unfold dictGet
 try with_reducible refine wpAny_holding ?_
 refine QJ (h1 _ _ (QJ (h2 _ _ _ ?_)));have z:=D.val (y:=y)
 cases e:pl ks y with
 | none=>rw [e] at z;exact QL (h _ _ z)
 | some i=>rw [e] at z;exact QJ (wpAny_dictEntries (s:={ s with toks:=s.toks+n }) D.ho D.hd (QL (h _ _ z)))
theorem bG.typeIs (D:bG X g s ks a o es ep):s.TypeIs (.ref a) "dict":=⟨o,D.ho,D.hx.1⟩
theorem bG.in (D:bG X g s ks a o es ep) (I:Inv X pins φ g L s) (hu:X.A.units+20<cLine) (hf:dJ ks y) (ry:RT g none y v):(∀Q:QN->QP->Prop,(∀tk,Q (.bool (dh ks y).isSome) { s with toks:=tk })->QZ (model X.prog X.w) X.A (compareOp .In v (.ref a)) Q F0 s) /\
  ∀Q:QN->QP->Prop,(∀tk,Q (.bool (!(dh ks y).isSome)) { s with toks:=tk })->QZ (model X.prog X.w) X.A (compareOp .NotIn v (.ref a)) Q F0 s:=by
 have fS:X.A.in1.units+8<cLine:=by show X.A.units+1+8<cLine;omega
 have go:∀Q:Bool->QP->Prop,(∀tk,Q (dh ks y).isSome { s with toks:=tk })->QZ (model X.prog X.w) X.A (contains (.ref a) v) Q F0 s:=fun Q h=>by
  unfold contains
  try with_reducible refine wpAny_holding ?_
  refine QJ (wpAny_specialOf D.typeIs slot_dict_contains.lookup ?_);show QZ _ _ (if (some (UU "dict.__contains__") == some RG)=true then _ else _) _ _ s
  rw [if_neg (by rw [beq_builtin_none];exact RC)];refine QJ (wpAny_callSpecialUnlessNone?_slot (name:=Sa "__contains__") D.typeIs slot_dict_contains
   (wpAny_call_entry slot_dict_contains D.typeIs entry_dict_contains ?_ (args_dict_contains _ _)))
  show QZ _ _ (dictGet a v >>= _) _ _ s;refine QJ (D.get I fS hf ry fun tk u hu=>?_);rcases hu with⟨rfl,e⟩|⟨u,t,rfl,e,_⟩
  ·show QZ _ _ (Builtin.Dict.pendingKey? a v >>= _) _ _ _
   refine QJ (wpAny_pendingKey_other D.hs (QL ⟨_,rfl,wpAny_truthy_bool ?_⟩));have:=h tk;rw [e] at this;exact this
  ·show QZ _ _ (PySem.ret (.bool true)) _ _ _
   refine QL ⟨_,rfl,wpAny_truthy_bool ?_⟩;have:=h tk;rw [e] at this;exact this
 exact⟨fun Q h=>QJ (go _ fun tk=>QL (h tk)),fun Q h=>QJ (go _ fun tk=>QL (h tk))⟩
theorem bG.item (D:bG X g s ks a o es ep) (I:Inv X pins φ g L s) (hu:X.A.units+20<cLine) (hf:dJ ks y) (ry:RT g none y v) (hx:dh ks y=some x) {Q:QN->QP->Prop} (h:∀tk u,RT g none x u->Q u { s with toks:=tk }):QZ (model X.prog X.w) X.A (getItem (.ref a) v) Q F0 s:=by
 have fS:X.A.in1.units+8<cLine:=by show X.A.units+1+8<cLine;omega
 unfold getItem
 try with_reducible refine wpAny_holding ?_
 refine QJ (wpAny_sequenceKey D.typeIs (by decide) ?_);refine QJ (wpAny_callSpecial?_slot (name:=Sa "__getitem__") D.typeIs slot_dict_getitem
  (wpAny_call_entry slot_dict_getitem D.typeIs entry_dict_getitem ?_ (args_dict_getitem _ _)))
 show QZ _ _ (dictGet a v >>= _) _ _ s;refine QJ (D.get I fS hf ry fun tk u hu=>?_);rcases hu with⟨rfl,e⟩|⟨u,t,rfl,e,r⟩
 ·rw [hx] at e;cases e
 ·rw [hx] at e;cases e
  exact QL ⟨u,rfl,QL (h tk u r)⟩
theorem wD {ks:List T} (h:fm (y::ks)=true):fm ks=true/\fm (ks++[y])=true:=by
 unfold fm at h ⊢;simp only [R0,S1,QS,List.all_append,WT,and_true] at h ⊢;rcases h with(h|h)|h
 ·exact⟨.inl (.inl h.2),.inl (.inl ⟨h.2,h.1⟩)⟩
 ·exact⟨.inl (.inr h.2),.inl (.inr ⟨h.2,h.1⟩)⟩
 ·obtain rfl:ks=[]:=by simpa using h.1
  exact⟨.inl (.inl rfl),.inr ⟨rfl,rfl,h.2.1⟩⟩
theorem fU (h:∀p∈ks,p.1≠y):dput ks y t=ks++[(y,t)]:=by
 unfold dput;rw [if_neg];intro z;obtain⟨p,hp,e⟩:=S7.mp z;exact h p hp (of_decide_eq_true e)
theorem wF {i:Nat} (hn:(ks.map (·.1)).Nodup) (h:pl ks y=some i):dput ks y t=ks.set i (y,t):=by
 obtain⟨h1,h2,h3⟩:=Sl.mp h;unfold dput;rw [if_pos (S7.mpr ⟨_,Q6 h1,by rw [decide_eq_true (of_decide_eq_true h2)]⟩)];refine Sx (by simp) fun j j1 j2=>?_
 rw [Tq,List.getElem_set];have hj:j<ks.length:=by simpa using j1
 by_cases e:i=j
 ·subst e
  rw [if_pos rfl,if_pos (of_decide_eq_true h2),of_decide_eq_true h2]
 ·rw [if_neg e,if_neg]
  intro z;have hi':(ks.map (·.1))[i]?=some y:=by rw [Rd,Ge9 h1];exact congrArg some (of_decide_eq_true h2)
  have hj':(ks.map (·.1))[j]?=some y:=by rw [Rd,Ge9 hj];exact congrArg some z
  exact e ((List.getElem?_inj (by simpa using h1) hn).mp (hi'.trans hj'.symm))
theorem Inv.DB {p:Rm × Rm} {o':Obj} {es':Array DictEntry} {Fu:Nat} {ks':List (T × T)} {h':Heap} {tk:Nat} (I:Inv X pins φ g L s) (hp:at_ g.α n=some p) (hk:g.H p.1=some (false,o)) (oX:p.2=p.1) (D:bG X g s ks p.1 o es ep) (keep:∀b v,b≠p.1->s.heap.get? b=some v->h'.get? b=some v) (new:h'.get? p.1=some o') (hx:o'.ExactDict) (hd:o'.data=.dict es' Fu)
  (hz:ks'.length<=Q9) (hl:ks'.length=es'.size) (hn:(ks'.map (·.1)).Nodup) (hm:fm (ks'.map (·.1))=true) (hh:∀(i:Nat) x e,ks'[i]?=some x->es'[i]?=some e->e.hash=hT X.w x.1/\RT g none x.1 e.key/\RT g none x.2 e.val) :
  ∃g',Le g g'/\Inv X pins φ g' (put L n (.ah ks')) { s with heap:=h',toks:=tk }/\∀b,b≠p.1->g'.H b=g.H b:=by
 have l:=Le.set (o:=o') hk;refine⟨_,l,I.set (t':=tk) hp (.inl rfl) hk keep new ?_,fun b hb=>au hb⟩;have ht:qH (some p) p.1 p.1:=.inr (congrArg some (Prod.ext rfl oX))
 exact .ah ht (.inl aj) hx hd hz hl ⟨hn,hm⟩ D.hs (fun i x e e1 e2=>by show e.hash=hT g.w x.1;rw [I.gw];exact(hh i x e e1 e2).1) (fun i x e e1 e2=>(hh i x e e1 e2).2.1.le l) fun i x e e1 e2=>(hh i x e e1 e2).2.2.le l
theorem Inv.mH (I:Inv X pins φ g L s) (ru:RT g none (.ref n) u) (hc:at_ L n=some (.ah ks)):∃p o es ep,u=.ref p.1/\at_ g.α n=some p/\p.2=p.1/\g.H p.1=some (false,o)/\bG X g s ks p.1 o es ep:=by
 obtain⟨p,hp,rc⟩:=I.rel.cells n _ hc;cases ru with
 | ref hq =>
  rw [hp] at hq;cases hq;obtain⟨a,o,es,ep,e,ht,hk,D⟩:=I.ah rc;have ea:p.1=a:=by injection e
  subst ea;refine⟨p,o,es,ep,rfl,hp,?_,?_,D⟩
  ·rcases ht with z|z
   ·cases z
   ·exact congrArg Prod.snd (SF z)
  ·rcases hk with hk|⟨z,_⟩
   ·exact hk
   ·cases z
theorem bG.new {p:Rm × Rm} {tk:Nat} (D:bG X g s ks p.1 o es ep) (I:Inv X pins φ g L s) (hp:at_ g.α n=some p) (oX:p.2=p.1) (hk:g.H p.1=some (false,o)) (hf:dJ ks y) (hz:ks.length<Q9) (jm:pl ks y=none) (ry:RT g none y v) (rt:RT g none t u) :
  ∃g',Le g g'/\Inv X pins φ g' (put L n (.ah (dput ks y t))) { s with heap:=s.heap.update p.1 (Obj.mapDictKeys (·.push ⟨hT X.w y,v,u⟩)),toks:=tk }/\∀b,b≠p.1->g'.H b=g.H b:=by
 have hne:=(nF jm).2;rw [fU hne];refine I.DB hp hk oX D (fun b v hb hv=>(Rh s.heap _ (Sy hb)).trans hv) (RA _ D.ho (Vy (Uw D.hd _))) (D.hx.mapDictKeys _) (Uw D.hd _) (by simp;omega) (by simp [D.hl]) ?_ ?_ fun i x e e1 e2=>?_
 ·rw [Rg,Um]
  refine⟨D.hn,by simp,fun x hx y' hy=>?_⟩;obtain⟨q,hq,rfl⟩:=Rj.mp hx;have:y'=y:=by simpa using hy
  rw [this];exact hne q hq
 ·rw [Rg];exact(wD hf).2
 ·rw [List.getElem?_append] at e1
  rw [UJ] at e2;split at e1
  ·rename_i hi
   rw [if_neg (by rw [<- D.hl];exact Rc hi)] at e2;exact⟨D.hh i x e e1 e2,D.h1 i x e e1 e2,D.h2 i x e e1 e2⟩
  ·rename_i hi
   have BC:i=es.size:=by
    have:=(Q2.mp e1).1;simp at this;have:=D.hl
    omega
   rw [if_pos BC] at e2;cases e2;have e1':i - ks.length=0:=by have:=D.hl;omega
   rw [e1'] at e1;cases e1;exact⟨rfl,ry,rt⟩
theorem bG.old {p:Rm × Rm} {tk i:Nat} (D:bG X g s ks p.1 o es ep) (I:Inv X pins φ g L s) (hp:at_ g.α n=some p) (oX:p.2=p.1) (hk:g.H p.1=some (false,o)) (hi:pl ks y=some i) (rt:RT g none t u) :
  ∃g',Le g g'/\Inv X pins φ g' (put L n (.ah (dput ks y t))) { s with heap:=s.heap.update p.1 (Obj.mapDict (·.modify i fun e=>{ e with val:=u })),toks:=tk }/\∀b,b≠p.1->g'.H b=g.H b:=by
 rw [wF D.hn hi];obtain⟨q,q1,q2,_⟩:=nE hi;have keys:(ks.set i (y,t)).map (·.1)=ks.map (·.1):=by
  refine Sx (by simp) fun j h1 h2=>?_
  rw [Tq,Tq,List.getElem_set];by_cases e:i=j
  ·subst e
   rw [if_pos rfl,(Q2.mp q1).2,q2]
  ·rw [if_neg e]
 refine I.DB hp hk oX D (fun b v hb hv=>(Rh s.heap _ (Sy hb)).trans hv) (RA _ D.ho (Vy (Obj.data_mapDict D.hd _))) (D.hx.mapDict _) (Obj.data_mapDict D.hd _) (by simpa using D.hz) (by simp [D.hl]) (by rw [keys];exact D.hn) (by rw [keys];exact D.hm) fun j x e e1 e2=>?_
 rw [Array.getElem?_modify] at e2;rw [List.getElem?_set] at e1;by_cases ej:i=j
 ·subst ej
  rw [if_pos rfl] at e1 e2;obtain⟨e0,f1,f2⟩:=QY.mp e2;have bL:=(Q2.mp q1).1
  rw [if_pos bL] at e1;cases e1;subst f2;exact⟨by rw [<- q2];exact D.hh i q e0 q1 f1,by rw [<- q2];exact D.h1 i q e0 q1 f1,rt⟩
 ·rw [if_neg ej] at e1 e2
  exact⟨D.hh j x e e1 e2,D.h1 j x e e1 e2,D.h2 j x e e1 e2⟩
theorem sX {A:RH} (I:Inv X pins φ g L s) (hu:A.units+8<cLine) (hc:at_ L n=some (.ah ks)) (rd:RT g none (.ref n) (.ref a)) (ry:RT g none y v) {tv:QN} (rt:RT g none t tv) (hz:ks.length<Q9) (hf:dJ ks y) :
  QZ (model X.prog X.w) A (dictSet a v tv) (fun _ s'=>(∃g',Le g g'/\Inv X pins φ g' (put L n (.ah (dput ks y t))) s'/\∀b,b≠a->g'.H b=g.H b)/\∀b,b≠a->s'.heap.get? b=s.heap.get? b) E s:=by
 obtain⟨p,o,es,ep,ea,hp,oX,hk,D⟩:=I.mH rd hc;cases ea;obtain⟨m,h1,h2⟩:=D.find I hu hf ry;unfold dictSet
 try with_reducible refine wpAny_holding ?_
 refine QJ (h1 _ _ ?_);unfold dictSetHashed
 try with_reducible refine wpAny_holding ?_
 refine QJ (h2 _ _ _ ?_);cases e:pl ks y with
 | none =>
  exact QJ (wpAny_rule (wpAny_updateDictKeys (hz:=by have:=D.hl;omega) (s:={ s with toks:=s.toks+m }) D.ho D.hd ⟨D.new I hp oX hk hf hz e ry rt,fun b hb=>Rh s.heap _ (Sy hb)⟩))
 | some i =>
  exact QJ (wpAny_rule (QJ (wpAny_updateDict (s:={ s with toks:=s.toks+m }) D.ho D.hd (wpAny_point ⟨D.old I hp oX hk e rt,fun b hb=>Rh s.heap _ (Sy hb)⟩))))
theorem zZ (I:Inv X pins φ g L s) (hu:X.A.units+20<cLine) (hc:at_ L n=some (.ah ks)) (rd:RT g none (.ref n) u) (ry:RT g none y v) {tv:QN} (rt:RT g none t tv) (hz:ks.length<Q9) (hf:dJ ks y) :
  QZ (model X.prog X.w) X.A (setItem u v tv) (fun _ s'=>∃g',Le g g'/\Inv X pins φ g' (put L n (.ah (dput ks y t))) s') F0 s:=by
 have fS:X.A.in1.units+8<cLine:=by show X.A.units+1+8<cLine;omega
 obtain⟨p,o,es,ep,rfl,hp,oX,hk,D⟩:=I.mH rd hc;unfold setItem
 try with_reducible refine wpAny_holding ?_
 refine QJ (wpAny_sequenceKey D.typeIs (by decide) ?_);refine QJ (wpAny_callSpecial?_slot (name:=Sa "__setitem__") D.typeIs slot_dict_setitem
  (wpAny_call_entry slot_dict_setitem D.typeIs entry_dict_setitem ?_ (args_dict_setitem _ _ _)))
 show QZ _ _ (Builtin.Dict.notOrdered "__setitem__" ⟨[.ref p.1,v,tv],[]⟩ >>= _) _ _ s;refine QJ (wpAny_notOrdered_dict D.typeIs ?_);show QZ _ _ (dictSet p.1 v tv >>= _) _ _ s
 refine QJ (wpAny_mono (sX I fS hc rd ry rt hz hf) (fun _ s' ⟨⟨g',l,J,_⟩,_⟩=>QL ⟨.none,rfl,QL ⟨g',l,J⟩⟩) fun _ _ e=>e)
end
section
variable {P:RY} {w:SU} {A:RH} {E:QN->QP->Prop} {s:QP} {d it:Rm} {o:Obj} {es:Array DictEntry} {ep:Nat}
structure DO (h:Heap) (d:Rm) (o:Obj) (es:Array DictEntry) (ep:Nat):Prop where
 ho:h.get? d=some o
 hx:o.ExactDict
 hd:o.data=.dict es ep
theorem DO.iter (D:DO s.heap d o es ep) (hs:(d == sysModules)=false) {Q:QN->QP->Prop} (hQ:Q (.ref s.heap.objs.size) { s with heap:=s.heap.push { cls:=.type "dict_keyiterator",data:=.fields #[.ref d,.int 0 0,.int es.size 0,.int ep 0] } }):QZ (model P w) A (pyIter (.ref d)) Q E s:=by
 have hT:s.TypeIs (.ref d) "dict":=⟨o,D.ho,D.hx.1⟩;refine wpAny_pyIter_slot hT U6 (wpAny_call_entry U6 hT PySem.F.entry_dict_iter ?_ (PySem.F.args_dict_iter_1 _));refine QJ (QJ (wpAny_notOrdered_dict hT (QL ?_)));refine QJ (QL (QJ ?_));show QZ _ _ (if (d == sysModules)=true then _ else _) _ _ _
 rw [if_neg (by rw [hs];exact RC)];refine QL (QJ (wpAny_dictEntries D.ho D.hd (QJ (wpAny_dictEpoch D.ho D.hd ?_))));exact QJ (wpAny_newObj_type (QL ⟨_,rfl,"dict_keyiterator",_,⟨_,QM _ rfl,rfl⟩,To.lookup,by simpa [rawInt] using hQ⟩))
theorem DO.next (D:DO s.heap d o es ep) (hh:A.handled=none) {i:Nat} (hit:s.heap.IsKeyIter it d i es.size ep) {Q:Option QN->QP->Prop} (hQ:∀(hi:i<es.size) h',h'.IsKeyIter it d (i+1) es.size ep->Ss it s.heap h'->Q (some es[i].key) { s with heap:=h' }) (hE:es.size<=i->∀h',Xg it s.heap h'->Q none { s with heap:=h' }):QZ (model P w) A (pyNext (.ref it)) Q E s:=by
 obtain⟨oi,ho,hc,hd⟩:=id hit;unfold pyNext;refine QJ (wpAny_attempt (wpAny_callSpecial?_slot (name:=Sa "__next__") hit.typeIs To (wpAny_call_entry To hit.typeIs PySem.F.entry_dict_keyiterator_next ?_ (PySem.F.args_dict_keyiterator_next_1 _))));refine QJ (QL (QJ (QJ (QJ (wpAny_typeNameOfWhole_keyiter hit.typeIs (QL (QJ (wpAny_fieldsOf ho hd ?_))))))));have JI:Builtin.Dict_items.ownsTuple "dict_keyiterator"=false:=by decide
 simp only [JI,QW,if_false];show QZ _ _ (if (Sz d == RG)=true then _ else _) _ _ s
 rw [if_neg (show ¬ ((Sz d == RG)=true) from RC)];refine QJ (QL (QJ (wpAny_dictEntries D.ho D.hd ?_)));rw [if_neg (by simp)];refine QJ (QL (QJ (wpAny_dictEpoch D.ho D.hd ?_)));rw [if_neg (by simp)];refine QL ?_;by_cases hi:i<es.size
 ·simp only [show ¬ ((i:Int)<0) from by omega,if_false,R7,QU hi]
  refine QJ (QJ (wpAny_typeNameOfWhole_keyiter hit.typeIs (QL (QJ (wpAny_isOneOf_keyiter hit.typeIs ?_)))));show QZ _ _ (setField (.ref it) 1 (rawInt ((i:Int)+1)) >>= _) _ _ s
  refine QJ (wpAny_setField ho hd (by simp) ?_);have z6:(s.heap.update it (UW (·.setIfInBounds 1 (rawInt ((i:Int)+1))))).IsKeyIter it d (i+1) es.size ep :=
   ⟨_,RA _ ho (Uc (SG hd _)),(Vc ..).trans hc,by rw [SG hd];simp [rawInt]⟩
  refine QJ (wpAny_holding (QJ (wpAny_isOneOf_keyiter (s:={ s with heap:=s.heap.update it (UW (·.setIfInBounds 1 (rawInt ((i:Int)+1)))) }) z6.typeIs ?_)));show QZ _ _ (pure es[i].key) _ _ _
  exact QL (QL ⟨_,rfl,QL (hQ hi _ z6 (RW ..))⟩)
 ·simp only [show ¬ ((i:Int)<0) from by omega,if_false,R7,Array.getElem?_eq_none (by omega:es.size<=i)]
  refine QJ (QJ (wpAny_typeNameOfWhole_keyiter hit.typeIs (QL ?_)));show QZ _ _ (setField (.ref it) 0 .none >>= _) _ _ s
  refine QJ (wpAny_setField ho hd (by simp) (QJ ?_));simp only [newExc,newTuple];refine QJ (wpAny_newObj_type ?_ (by size_fits));refine QJ (m:=firstArgMember _ _) (wpAny_of_eq (a:=RG) (by first|rfl|(simp only [firstArgMember];rfl)) (wpAny_newObj_type ?_ (by size_fits)));simp only [raiseNew];refine QJ (wpAny_handled ?_);rw [show A.in1.handled=none from hh];refine QJ (QL (wpAny_throw ?_));refine QJ (wpAny_isInstance (T:="StopIteration") (b:=true) ⟨_,QM _ rfl,rfl⟩ isSubtype_stop ?_);exact QL (hE (by omega) _ (((RW ..).extBut.push _).push _))
theorem DO.keep {h h':Heap} (D:DO h d o es ep) (k:∀o,h.get? d=some o->h'.get? d=some o):DO h' d o es ep:=⟨k _ D.ho,D.hx,D.hd⟩
theorem DO.src (hs:(d == sysModules)=false):PySem.W.KdlSrc P w "dict" d d es.size (fun i v=>∃e,es[i]?=some e/\v=e.key) (fun h=>DO h d o es ep) where
 type:=fun _ D=>⟨o,D.ho,D.hx.1⟩
 there:=fun _ D=>⟨Q1 D.ho,Q1 D.ho⟩
 keep:=fun _ _ D k=>D.keep fun o e=>k d (.inl rfl) o e
 notList:=by decide
 notTuple:=by decide
 hint:=fun _ _ _ _ D q=>PySem.W.kdl_hint_dict ⟨o,D.ho,D.hx.1⟩ q
 iter:=fun _ s hh D=>⟨_,fun i h=>h.IsKeyIter s.heap.objs.size d i es.size ep/\DO h d o es ep,(fun _ _ q=>D.iter hs q),{
  sub:=fun b hb=>by simp at hb;simp [hb]
  frame:=fun _ _ _ st k=>⟨st.1.at fun o e=>k _ (by simp) o e,st.2.keep fun o e=>k d (by simp) o e⟩
  item:=fun i s' Q E hi st hQ=>st.2.next hh st.1 (fun _ h' a b=>hQ _ h' s'.toks ⟨_,QU hi,rfl⟩ ⟨a,st.2.keep fun o e=>(b.2 d (Rc (Q1 D.ho))).trans e⟩ fun c o hc e=>(b.2 c fun z=>hc (by simp [z])).trans e) fun z=>absurd hi (Nat.not_lt.mpr z)
  done:=fun s' Q E st hQ=>st.2.next hh st.1 (fun z=>absurd z (Sk _)) fun _ h' b=>hQ h' s'.toks fun c o hc e=>b c o (fun z=>hc (by simp [z])) e
  self:=fun _ _ _ _ st q=>wpAny_pyIter_keyiter st.1 q },⟨⟨_,QM _ rfl,rfl,rfl⟩,D.keep fun o e=>QK _ e⟩⟩
end
section
variable {X:Cx} {pins:aJ} {φ:Fr} {g:G} {L:aa} {s:QP}
theorem ux {fz:Bool} {ks:List (T × T)} {a:Rm} {o:Obj} {es:Array DictEntry} {ep:Nat} {w:T} {L':aa} (I:Inv X pins φ g L s) (D:bG X g s ks a o es ep) (h:fk fz (ks.map (·.1)) L=.ok w L'):QZ (model X.prog X.w) X.A (call (.type "list") [.ref a]) (EP X pins φ g w L') F0 s:=by
 refine PySem.W.kdl_call (DO.src (o:=o) (es:=es) (ep:=ep) D.hs) I.ok.hd ⟨D.ho,D.hx,D.hd⟩ (by have:=D.hz;have:=D.hl;omega) fun h' tk acc c' kp hg ku=>?_
 refine g9 (t':=tk) (n:=c') (us:=acc.toList) I (cS ?_ fun i x v e1 e2=>?_) h kp (by simpa using hg)
 ·have:=ku.1
  have:=D.hl;simp;omega
 ·obtain⟨e,f1,rfl⟩:=ku.2 i v (by rw [<- Vk];exact e2)
  rw [Rd] at e1;obtain⟨q,q1,q2⟩:=QY.mp e1;rw [<- q2];exact D.h1 i q e q1 f1
end
section
variable {X:Cx} {pins:aJ} {φ:Fr} {g:G} {L:aa} {s:QP} {xs ys:List T} {us vs:List QN} {e a b:Expr} {m ma mb:SE} {pos p2:Pos}
theorem DC {α:Type} {y:T} {f:Int->R α} {w:α} {L':aa} (h:(match y with|.int i=>f i|_=>.bad)=.ok w L'):∃i,y=.int i/\f i=.ok w L':=by
 cases y with
 | int i=>exact⟨i,rfl,h⟩
 | _=>cases h
theorem Gn {α:Type} {y:T} {f:R α} {w:α} {L':aa} (h:(match y with|.bj=>f|_=>.bad)=.ok w L'):y=.bj/\f=.ok w L':=by
 cases y with
 | bj=>exact⟨rfl,h⟩
 | _=>cases h
theorem Oh {α:Type} {y:T} {f:Nat->R α} {w:α} {L':aa} (h:(match y with|.str [ch]=>f ch|_=>.bad)=.ok w L'):∃ch,y=.str [ch]/\f ch=.ok w L':=by
 split at h
 ·exact⟨_,rfl,h⟩
 ·cases h
theorem BD (hu:X.A.units+20<cLine) {x y:T} {u v:QN} {k:Bool} {L':aa} (I:Inv X pins φ g L s) (rx:RT g none x u) (ry:RT g none y v) (h:jy x y L=.ok k L') :
  L'=L/\(∀Q:QN->QP->Prop,(∀tk,Q (.bool k) { s with toks:=tk })->QZ (model X.prog X.w) X.A (compareOp .In u v) Q F0 s)/\∀Q:QN->QP->Prop,(∀tk,Q (.bool (!k)) { s with toks:=tk })->QZ (model X.prog X.w) X.A (compareOp .NotIn u v) Q F0 s:=by
 obtain⟨p,vy⟩:=I.view ry;unfold jy at h;generalize vw L y=y' at h vy;have fS:X.A.in1.units+8<cLine:=by show X.A.units+1+8<cLine;omega
 cases y' with
 | str b =>
  obtain⟨ch,rfl,h⟩:=Oh h;cases h;obtain⟨_,rfl⟩:=rx.sI;obtain⟨_,rfl⟩:=vy.sI;exact⟨rfl,fun Q q=>in_str (by rw [sO];exact q s.toks),fun Q q=>notIn_str (by rw [sO];exact q s.toks)⟩
 | lst ys =>
  obtain⟨⟨h1,h2⟩,h⟩:=ak h;cases h;obtain⟨a,its,n,rfl,e,r,_⟩:=I.lst vy;obtain⟨f,f1,f2,_⟩:=ny I fS h1 rx h2 r;rw [<- f2,<- show its.any f=its.toList.any f by simp];exact⟨rfl,fun Q q=>SeqAt.in_listAt f (ae e) (fun w hw=>f1 w (by simpa using hw)) (q s.toks),fun Q q=>SeqAt.notIn_listAt f (ae e) (fun w hw=>f1 w (by simpa using hw)) (q s.toks)⟩
 | tup ys =>
  obtain⟨⟨h1,h2⟩,h⟩:=ak h;cases h;obtain⟨a,its,rfl,e,r,_⟩:=I.tupP vy;obtain⟨f,f1,f2,_⟩:=ny I fS h1 rx h2 r;rw [<- f2,<- show its.any f=its.toList.any f by simp];exact⟨rfl,fun Q q=>SeqAt.in_tupleAt f e (fun w hw=>f1 w (by simpa using hw)) (q s.toks),fun Q q=>SeqAt.notIn_tupleAt f e (fun w hw=>f1 w (by simpa using hw)) (q s.toks)⟩
 | ah ks =>
  obtain⟨h1,h⟩:=ak h;cases h;obtain⟨a,o,es,ep,rfl,_,_,D⟩:=I.ah vy;obtain⟨d1,d2⟩:=D.in I hu h1 rx;exact⟨rfl,fun Q q=>d1 Q q,fun Q q=>d2 Q q⟩
 | _=>cases h
theorem z7 {l b:Rm} {x y:Array QN} {n n2:Nat} (hz:x.size=y.size) (k:Nat):∀i:Nat,x.size - i=k->Meets (Builtin.«list.__eq__.loop» ⟨[.ref l,.ref b,rawInt i,rawInt 0],[]⟩)
  (fun A R s=>s.heap.get? l=some { cls:=.type "list",data:=.seq x n }/\s.heap.get? b=some { cls:=.type "list",data:=.seq y n2 }/\(∀j (h1:j<x.size) (h2:j<y.size),S5 A.in1 s x[j] y[j] true)/\R (.ok (.ret (.bool false))) s):=by
 induction k with
 | zero =>
  intro i hk prog w A R s ⟨hl,hb,he,h⟩;have e1:x[((i:Nat):Int).toNat]?=none:=by simp;omega
  have e2:y[((i:Nat):Int).toNat]?=none:=by simp;omega
  obtain⟨hp,g,d,tk,os⟩:=s
  wp_walk using RK hl,RK hb
  rw [e1,e2]
  wp_walk using RK hl,RK hb
  show R (.ok (.ret (.bool (decide (x.size<y.size))))) _;rw [hz,decide_eq_false (Sk _)];exact h
 | succ k ih =>
  intro i hk prog w A R s ⟨hl,hb,he,h⟩;have h1:i<x.size:=by omega
  have h2:i<y.size:=by omega
  have e1:x[((i:Nat):Int).toNat]?=some x[i]:=by simp [h1]
  have e2:y[((i:Nat):Int).toNat]?=some y[i]:=by simp [h2]
  obtain⟨hp,g,d,tk,os⟩:=s
  wp_walk using RK hl,RK hb
  rw [e1,e2];refine QJ (he i h1 h2 prog w _ _ ?_)
  wp_walk
  rw [show((i:Int)+1)=((i+1:Nat):Int) by push_cast;rfl];exact⟨plainId_quiet TQ _,codeAny_builtin Wl (by
   rw [RN TQ _];exact ih (i+1) (by omega) prog w A R _ ⟨hl,hb,he,h⟩)⟩
theorem z8 {l b:Rm} {x y:Array QN} {n n2:Nat} (hz:x.size=y.size):Meets (Builtin.«list.__lt__» ⟨[.ref l,.ref b],[]⟩)
  (fun A R s=>s.heap.get? l=some { cls:=.type "list",data:=.seq x n }/\s.heap.get? b=some { cls:=.type "list",data:=.seq y n2 }/\(∀j (h1:j<x.size) (h2:j<y.size),S5 A.in1 s x[j] y[j] true)/\R (.ok (.ret (.bool false))) s):=by
 intro prog w A R s ⟨hl,hb,he,h⟩;obtain⟨hp,g,d,tk,os⟩:=s;have f:=WB
 wp_walk using RK hl,RK hb
 exact⟨plainId_quiet TQ _,codeAny_builtin Wl (by
  rw [RN TQ _];exact z7 hz _ 0 rfl prog w A R _ ⟨hl,hb,he,h⟩)⟩
theorem z9 (hu:X.A.units+20<cLine) {u v:QN} (I:Inv X pins φ g L s) (rx:RT g none (.lst xs) u) (ry:RT g none (.lst ys) v) (h1:dat 8 (.lst xs)=true) (h2:dat 8 (.lst ys)=true) (h:eqT (.lst xs) (.lst ys)=true):QZ (model X.prog X.w) X.A (compareOp .Lt u v) (EP X pins φ g (.bl false) L) F0 s:=by
 obtain⟨a,x,n,rfl,e,r,_⟩:=I.lst rx;obtain⟨b,y,n2,rfl,e2,r2,_⟩:=I.lst ry;have h:jx (qD 7) xs ys=true:=h
 have h1:xs.all (dat 7)=true:=h1;have h2:ys.all (dat 7)=true:=h2
 rw [<- eR,QS,QO] at h;have hl:xs.length=ys.length:=by simpa using h.2
 have l1:xs.length=x.size:=by simpa using Q0 r
 have l2:ys.length=y.size:=by simpa using Q0 r2
 refine richCompare_meets_room (op:=.Lt) ⟨_,e,rfl⟩ ⟨_,e2,rfl⟩ PySem.F.slot_list_lt PySem.F.entry_list_lt (PySem.F.args_list_lt_2 _ _) (z8 (n:=n) (n2:=n2) (by omega)) ⟨e,e2,fun j j1 j2=>?_,(show Value.bool false≠W6/\EP X pins φ g (.bl false) L (.bool false) s from⟨(fun z=>nomatch z),I.ep (.bl false)⟩)⟩ (by omega);have q:=h.1 j (by simp;omega)
 rw [<- q];exact(I.rc 7 (nv h1 (by omega)) (nv h2 (by omega)) (by show X.A.units+1+7<cLine;omega) (qI r j _ _ (getD_at (by omega)) (by simp [j1])) (qI r2 j _ _ (getD_at (by omega)) (by simp [j2]))).2
theorem ne_nil (hu:X.A.units+20<cLine) {u v:QN} (I:Inv X pins φ g L s) (rx:RT g none (.lst xs) u) (ry:RT g none (.lst []) v):QZ (model X.prog X.w) X.A (compareOp .NotEq u v) (EP X pins φ g (.bl (!xs.isEmpty)) L) F0 s:=by
 obtain⟨a,x,n,rfl,e,r,_⟩:=I.lst rx;obtain⟨b,y,n2,rfl,e2,r2,_⟩:=I.lst ry;have l1:xs.length=x.size:=by simpa using Q0 r
 have l2:0=y.size:=by simpa using Q0 r2
 cases xs with
 | nil=>exact SeqAt.RcNeAt.lists (e:=fun _=>true) (ae e) (ae e2) (by simp at l1;omega) (by omega) (fun j h1 h2=>by omega) _ _ _ _ (by rw [show x.size=0 from l1.symm];exact I.ep (.bl false))
 | cons t r=>exact SeqAt.RcNeAt.lists_lengths (ae e) (ae e2) (by simp at l1 ⊢;omega) (by omega) _ _ _ _ (I.ep (.bl true))
theorem nG {op:CmpOp} (hu:X.A.units+20<cLine):vE X (compareOp op) (cmp op):=fun {pins φ g L s x y w L' u v} I rx ry h=>by
 obtain⟨k,h',rfl⟩:=m8 h;clear h;have fin:∀k,EP X pins φ g (.bl k) L (.bool k) s:=fun k=>I.ep (.bl k)
 cases op with
 | Eq =>
  obtain⟨h1,h2,rfl,rfl⟩:=Dr h';obtain⟨p,vx⟩:=I.view rx;obtain⟨q,vy⟩:=I.view ry;exact(I.rc 8 h1 h2 (by omega) vx vy).1 _ _ _ _ (fin _)
 | NotEq =>
  have h:IB x y L=.ok k L':=h';unfold IB at h;split at h
  ·obtain⟨_,rfl⟩:=rx.iI;obtain⟨_,rfl⟩:=ry.iI;cases h;exact ne_int (fin _)
  ·obtain⟨_,rfl⟩:=rx.sI;obtain⟨_,rfl⟩:=ry.sI;cases h;refine ne_str ?_;simp only [bne,str_beq];exact fin _
  ·cases h;exact ne_nil hu I rx ry
  ·cases h
 | Lt =>
  have h:IC x y L=.ok k L':=h';unfold IC at h;split at h
  ·obtain⟨_,rfl⟩:=rx.iI;obtain⟨_,rfl⟩:=ry.iI;cases h;exact lt_int (fin _)
  ·obtain⟨_,rfl⟩:=rx.sI;obtain⟨_,rfl⟩:=ry.sI;cases h;exact lt_str (fin _)
  ·obtain⟨⟨h1,h2,h3⟩,h⟩:=ak h;cases h;exact z9 hu I rx ry h1 h2 h3
  ·cases h
 | Gt =>
  have h:ID x y L=.ok k L':=h';unfold ID at h;split at h
  ·obtain⟨_,rfl⟩:=rx.iI;obtain⟨_,rfl⟩:=ry.iI;cases h;exact gt_int (fin _)
  ·cases h
 | LtE =>
  have h:Cq x y L=.ok k L':=h';unfold Cq at h;split at h
  ·obtain⟨_,rfl⟩:=rx.iI;obtain⟨_,rfl⟩:=ry.iI;cases h;exact le_int (fin _)
  ·cases h
 | GtE =>
  have h:Cq y x L=.ok k L':=h';unfold Cq at h;split at h
  ·obtain⟨_,rfl⟩:=rx.iI;obtain⟨_,rfl⟩:=ry.iI;cases h;exact ge_int (fin _)
  ·cases h
 | Is =>
  obtain⟨rfl,h'⟩:=Gn h';obtain rfl:=ry.nI;cases h';exact is_none_gen (by rw [v9 rx];exact fin _)
 | IsNot =>
  obtain⟨rfl,h'⟩:=Gn h';obtain rfl:=ry.nI;cases h';exact isnot_none_gen (by rw [v9 rx];exact fin _)
 | In =>
  obtain⟨rfl,a,_⟩:=BD hu I rx ry h';exact a _ fun tk=>(I.tok tk).ep (.bl _)
 | NotIn =>
  obtain⟨k,h2,rfl⟩:=m8 h';obtain⟨rfl,_,a⟩:=BD hu I rx ry h2;exact a _ fun tk=>(I.tok tk).ep (.bl _)
theorem Gp (hu:X.A.units+20<cLine) (hb:uo b=true):vE X (fun o i=>subscriptTail a b o i) ix:=fun {pins φ g L s x y w L' u v} I rx ry h=>by
 obtain⟨p,vx⟩:=I.view rx;have hn:=qY
 unfold ix at h;generalize vw L x=x' at h vx;have hs:=fun o i=>wb hb o i
 cases x' with
 | str z =>
  obtain⟨i,rfl,h⟩:=DC h;obtain⟨q1,rfl⟩:=gG h;obtain⟨ch,q2,rfl⟩:=QY.mp q1;obtain⟨j,hj,hc⟩:=S9.mp q2;obtain⟨h1,h2,h3,h4,_⟩:=ki hj;obtain⟨_,rfl⟩:=ry.iI;obtain⟨t,rfl,hz⟩:=vx.gP
  ·have hl:(⟨z.toArray⟩:Str).length=z.length:=by show z.toArray.size=_;simp
   exact tail_any (typeIs_str s _ t) slot_str_getitem.lookup (getItem_str (c:=ch) (by
    have e1:decide (i < -(2 ^ 63:Int))=false:=decide_eq_false (by omega);have e2:decide (i≥2 ^ 63)=false:=decide_eq_false (by omega)
    rw [e1,e2,UX]) (by rw [hl,h1];simpa using hc) ((I.tok _).ep (.str [ch] _ (by show 1<=Q9;decide)))) (hs _ _)
 | tup xs =>
  obtain⟨i,rfl,h⟩:=DC h;obtain⟨q1,rfl⟩:=gG h;obtain⟨j,hj,hc⟩:=S9.mp q1;obtain⟨h1,h2,h3,h4,_⟩:=ki hj;obtain⟨_,rfl⟩:=ry.iI;obtain⟨a,its,rfl,e,r,hz⟩:=I.tupP vx;obtain⟨u,hu,ru⟩:=qJ r hc;have hl:xs.length=its.size:=by have:=Q0 r;simp at this;omega
  exact subscriptTail_builtinR (x:=u) e.typeIs slot_tuple_getitem.lookup
   (getItem_tuple (j:=j) (Q:=fun r s'=>r=u/\EP X pins φ g w L' r s') e (by omega) (by omega) (by rw [<- hl];exact h1) (by simpa using hu) ⟨rfl,I.ep ru⟩) (hs _ _)
 | lst xs =>
  obtain⟨i,rfl,h⟩:=DC h;obtain⟨q1,rfl⟩:=gG h;obtain⟨j,hj,hc⟩:=S9.mp q1;obtain⟨h1,h2,h3,h4,h5⟩:=ki hj;obtain⟨_,rfl⟩:=ry.iI;obtain⟨a,its,n,rfl,e,r,hz⟩:=I.lst vx;obtain⟨u,hu,ru⟩:=qJ r hc;have hl:xs.length=its.size:=by have:=Q0 r;simp at this;omega
  rcases h5 with⟨h0,hj⟩|⟨h0,hj⟩
  ·exact item_listR (ae e) h0 (by omega) (by rw [hj];simpa using hu) (I.ep ru) (hs _ _)
  ·exact subscriptTail_builtinR (x:=u) (ae e).typeIs slot_list_getitem.lookup
    (wpAny_getItem_list_neg (Q:=fun r s'=>r=u/\EP X pins φ g w L' r s') (ae e) (by omega) (by omega) (by omega) (by rw [<- hl,hj];simpa using hu) ⟨rfl,I.ep ru⟩) (hs _ _)
 | ah ks =>
  obtain⟨h1,q1⟩:=ak h;obtain⟨q2,rfl⟩:=gG q1;obtain⟨d,o,es,ep,rfl,_,_,D⟩:=I.ah vx;exact tail_any D.typeIs slot_dict_getitem.lookup (D.item I hu h1 ry q2 fun tk u r=>(I.tok tk).ep r) (hs _ _)
 | _=>cases h
theorem DD {t:T} {u v:QN} (h:zY t v=true) (r:RT g none t u):RT g none t v:=by
 rcases eH h with⟨i,k,rfl,rfl⟩|⟨z,k,rfl,rfl⟩
 ·exact .int _ _
 ·obtain⟨_,_,hz⟩:=r.gP;exact .str _ _ hz
theorem DE (hu:X.A.units+20<cLine):ur X "dict.get" lR:=fun {_ _ g _ s _ _ _ _ _ _} I rx rv h=>by
 have fS:X.A.in1.units+8<cLine:=by show X.A.units+1+8<cLine;omega
 unfold lR at h;split at h
 ·rename_i ks y t ev
  obtain⟨h1,h⟩:=ak h;cases h;obtain⟨p,v⟩:=I.view rx;rw [ev] at v;obtain⟨a,o,es,ep,rfl,_,_,D⟩:=I.ah v;obtain⟨u1,u2,rfl,r1,r2⟩:=ft rv;have M:MeetsIn X.prog X.w (Builtin.«dict.get» ⟨[.ref a,u1,u2],[]⟩) (fun A R s'=>A=X.A/\s'=s/\∀tk u,RT g none ((dh ks y).getD t) u->R (.ok (.ret u)) { s with toks:=tk }) :=
   .of_wp fun A R s' ⟨eA,es',h⟩=>by
    subst eA es';show QZ _ _ (dictGet a u1 >>= _) _ _ _
    refine QJ (D.get I fS h1 r1 fun tk u hu=>?_);rcases hu with⟨rfl,e⟩|⟨u,z,rfl,e,r⟩
    ·rw [e] at h
     show QZ _ _ (Builtin.Dict.missed a u1 >>= _) _ _ _;exact QJ (wpAny_missed_other D.hs (QL ⟨u2,rfl,h tk u2 r2⟩))
    ·rw [e] at h
     exact QL ⟨u,rfl,h tk u r⟩
  exact call_meetsIn WU D.typeIs PySem.F.entry_dict_get (PySem.F.args_dict_get_3 _ _ _) M ⟨rfl,rfl,fun tk u r=>(I.tok tk).ep r⟩
 ·cases h
theorem DF (hu:X.A.units+20<cLine):ur X "dict.setdefault" Cv:=fun {pins φ g L s _ _ _ _ _ _} I rx rv h=>by
 have fS:X.A.in1.units+8<cLine:=by show X.A.units+1+8<cLine;omega
 unfold Cv at h;split at h
 ·split at h
  ·rename_i n y t _ ks ea
   obtain⟨⟨hz,h1⟩,h⟩:=ak h;obtain⟨p,o,es,ep,rfl,hp,oX,hk,D⟩:=I.mH rx ea;obtain⟨u1,u2,rfl,r1,r2⟩:=ft rv;obtain⟨m,f1,f2⟩:=D.find I fS h1 r1;have hz:ks.length<Q9:=hz
   have M:MeetsIn X.prog X.w (Builtin.«dict.setdefault» ⟨[.ref p.1,u1,u2],[]⟩) (fun A R s'=>A=X.A/\s'=s/\(∀tk u x,dh ks y=some x->RT g none x u->R (.ok (.ret u)) { s with toks:=tk })/\(dh ks y=none->∀s',(∃g',Le g g'/\Inv X pins φ g' (put L n (.ah (dput ks y t))) s')->R (.ok (.ret u2)) s')) :=
    .of_wp fun A R s' ⟨eA,es',h1',h2'⟩=>by
     subst eA es';unfold Builtin.«dict.setdefault»;refine QJ ?_;unfold Builtin.Dict.keyAndDefault;refine QJ (wpAny_notOrdered_dict D.typeIs ?_);show QZ _ _ (pure (p.1,u1,some u2)) _ _ _
     refine QL ?_;show QZ _ _ (if (p.1 == sysModules)=true then _ else (dictSetDefault p.1 u1 u2 >>= _)) _ _ _
     rw [if_neg (by rw [D.hs];exact RC)];refine QJ ?_;unfold dictSetDefault
     try with_reducible refine wpAny_holding ?_
     refine QJ (f1 _ _ (QJ (f2 _ _ _ ?_)));cases e:pl ks y with
     | none =>
      exact QJ (wpAny_rule (QJ (wpAny_updateDictKeys (hz:=by have:=D.hl;omega) (s:={ s' with toks:=s'.toks+m }) D.ho D.hd (QL (QL ⟨u2,rfl,h2' (nF e).1 _ (let ⟨g',l,J,_⟩:=D.new I hp oX hk h1 hz e r1 r2;⟨g',l,J⟩)⟩)))))
     | some i =>
      obtain⟨q,q1,q2,q3⟩:=nE e;obtain⟨d,d1⟩:=D.at q1;refine QJ (wpAny_dictEntries (s:={ s' with toks:=s'.toks+m }) D.ho D.hd ?_);rw [d1];exact QJ (wpAny_rule (QL (QL ⟨d.val,rfl,h1' _ _ _ q3 (D.h2 i q d q1 d1)⟩)))
   refine call_meetsIn Vs D.typeIs PySem.F.entry_dict_setdefault (PySem.F.args_dict_setdefault_3 _ _ _) M ⟨rfl,rfl,fun tk u x e r=>?_,fun e s' ⟨g',l,J⟩=>?_⟩
   ·simp only [e] at h
    cases h;exact(I.tok tk).ep r
   ·simp only [e] at h
    cases h;exact⟨g',l,J,r2.le l⟩
  ·cases h
 ·cases h
theorem uy {fz:Bool}:cR X (.type "list") (dm fz):=fun {_ _ g _ s _ _ _ _} I r h=>by
 unfold dm at h;split at h
 ·obtain⟨u,rfl,ru⟩:=bo r
  split at h
  ·exact sR I ru (.inr (by assumption)) h
  ·exact sR I ru (.inl (by assumption)) h
  ·rename_i ks ev
   obtain⟨p,v⟩:=I.view ru;rw [ev] at v;obtain⟨a,o,es,ep,rfl,_,_,D⟩:=I.ah v;exact ux I D h
  ·cases h
 ·cases h
theorem Aa {i:Expr} (h:uo i=true):∀ov iv new,augStore i ov iv new=(do holding [new,ov,iv] (setItem ov iv new);release [new,ov,iv] [];pure .next):=fun _ _ _=>by
 cases i <;> first|rfl|cases h
theorem set_list {Md:RY} {w:SU} {A:RH} {E:QN->QP->Prop} {l:Rm} {items:Array QN} {n:Nat} {k:Int} {t:Tok} {v:QN} {Q:Unit->QP->Prop} (ho:s.heap.get? l=some { cls:=.type "list",data:=.seq items n }) (h0:0<=k) (hfit:k<2 ^ 63) (hn:k<items.size)
  (hQ:Q () { s with heap:=s.heap.update l (RJ (·.setIfInBounds k.toNat v)) }):QZ (model Md w) A (setItem (.ref l) (.int k t) v) Q E s:=by
 have hl:=ae ho;unfold setItem
 try with_reducible refine wpAny_holding ?_
 first|refine QJ (QL ?_)|skip
 refine QJ (wpAny_sequenceKey hl.typeIs (by decide) ?_);refine QJ (wpAny_callSpecial?_slot (name:=Sa "__setitem__") hl.typeIs slot_list_setitem
  (wpAny_call_entry slot_list_setitem hl.typeIs entry_list_setitem ?_ (args_list_setitem _ _ _)))
 show QZ _ _ (Builtin.List.listSubscript? (.int k t) >>= _) _ _ s;refine QJ (wpAny_listSubscript_int (fitsIndex_of h0 hfit) ?_);clear hfit;obtain⟨j,rfl⟩:=Int.eq_ofNat_of_zero_le h0;have hj:j<items.size:=by omega
 have hx':items[j]?=some items[j]:=QU hj;show QZ _ _ ((seqItemAt l j >>= fun r=>pure (r.map (j,·))) >>= _) _ _ s
 refine QJ (QJ (wpAny_seqItemAt ho rfl (QL ?_)));rw [hx'];show QZ _ _ (setSeqItemAt l j v >>= _) _ _ s
 refine QJ (wpAny_setSeqItemAt ho rfl ?_)
 first
  | exact QJ (QL (QL ⟨.none,rfl,QL hQ⟩))
  | exact QL ⟨.none,rfl,QL hQ⟩
theorem bM.set {i:Nat} {t:T} {u:QN} (h:bM g xs us) (r:RT g none t u):∀i,bM g (xs.set i t) (us.set i u):=by
 induction h with
 | nil=>intro i;simp;exact .nil
 | cons a b ih=>intro i;cases i with
  | zero=>exact .cons r b
  | succ i=>exact .cons a (ih i)
theorem nH (hu:X.A.units+20<cLine) {x y t:T} {xv yv tv:QN} {L':aa} (I:Inv X pins φ g L s) (rx:RT g none x xv) (ry:RT g none y yv) (rt:RT g none t tv) (h:lN x y t L=some L'):QZ (model X.prog X.w) X.A (setItem xv yv tv) (fun _ s'=>SP X pins g (.nx φ L') .next s') F0 s:=by
 unfold lN at h;split at h
 ·split at h
  ·split at h
   ·rename_i hc
    cases h;exact thn (zZ I hu (by assumption) rx ry rt hc.1 hc.2) fun _ s' z=>z
   ·cases h
  ·rename_i ea
   split at h
   ·split at h
    ·rename_i hc
     cases h;obtain⟨_,rfl⟩:=ry.iI;obtain⟨a,its,cnt,rfl,e,rr,hl,hz⟩:=I.mG rx ea;have hn:=qY
     refine set_list e hc.1 (by omega) (by omega) ?_;obtain⟨g',l,J,_⟩:=I.lU (t':=s.toks) (f:=(·.setIfInBounds _ tv)) ea rx e (by simpa using rr.set rt (i:=0) _) (by simpa using hz);exact⟨g',l,J⟩
    ·cases h
   ·cases h
  ·cases h
 ·cases h
theorem Ab {o i:Expr} {mo mi:SE} (hu:X.A.units+20<cLine) (ho:PE X o mo) (hi:PE X i mi) (he:PE X e m) (hs:jl e=true):PS X (.Assign [.Subscript o i p2] e pos) (oL mo mi m):=fun {pins φ g L s} I h=>by
 obtain⟨t,L1,e1,q1,h⟩:=fR h;rw [show oL mo mi m φ L=_ from q1];obtain⟨x,L2,e2,q2,h⟩:=fR h;rw [q2];obtain⟨y,L3,e3,q3,h⟩:=fR h;rw [q3];cases ep:lN x y t L3 with
 | none=>simp only [ep] at h;exact absurd rfl h
 | some L4 =>
  simp only [ep];exact wpAny_Assign_Subscript (thn (he I e1) fun tv s1 ⟨g1,l1,I1,r1⟩=>thn (ho I1 e2) fun xv s2 ⟨g2,l2,I2,r2⟩=>thn (hi I2 e3) fun yv s3 ⟨g3,l3,I3,r3⟩ =>
   thn (nH hu I3 (r2.le l3) r3 (r1.le (l2.trans l3)) ep) fun _ s4 z=>z.le ((l1.trans l2).trans l3)) (jZ hs)
theorem Ac {o i:Expr} {mo mi:SE} {op:Operator} (hu:X.A.units+20<cLine) (ho:PE X o mo) (hi:PE X i mi) (he:PE X e m) (hx:uo i=true):PS X (.AugAssign (.Subscript o i p2) op e pos) (vB op mo mi m):=fun {pins φ g L s} I h=>by
 obtain⟨x,L1,e1,q1,h⟩:=fR h;rw [show vB op mo mi m φ L=_ from q1];obtain⟨y,L2,e2,q2,h⟩:=fR h;rw [q2];obtain⟨z,L3,e3,q3,h⟩:=fR h;rw [q3];obtain⟨t,L4,e4,q4,h⟩:=fR h;rw [q4];obtain⟨r,L5,e5,q5,h⟩:=fR h;rw [q5];cases ep:lN x y r L5 with
 | none=>simp only [ep] at h;exact absurd rfl h
 | some L6 =>
  simp only [ep];refine wpAny_AugAssign_Subscript_any (thn (ho I e1) fun xv s1 ⟨g1,l1,I1,r1⟩=>thn (hi I1 e2) fun yv s2 ⟨g2,l2,I2,r2⟩=>?_) (Aa hx);have hg:QZ (model X.prog X.w) X.A (getItem xv yv) (EP X pins φ g2 z L3) F0 s2:=by
   unfold Jj at e3;obtain⟨p,v⟩:=I2.view (r1.le l2);split at e3
   ·rename_i ev
    rw [ev] at v;obtain⟨h1,k1⟩:=ak e3;obtain⟨k2,k3⟩:=gG k1;subst k3;obtain⟨d,o,es,ep,rfl,_,_,D⟩:=I2.ah v;exact D.item I2 hu h1 r2 k2 fun tk u r=>(I2.tok tk).ep r
   ·cases e3
  exact thn hg fun zv s3 ⟨g3,l3,I3,r3⟩=>thn (he I3 e4) fun tv s4 ⟨g4,l4,I4,r4⟩=>thn (wB I4 (r3.le l4) r4 e5) fun rv s5 ⟨g5,l5,I5,r5⟩ =>
   thn (nH hu I5 ((r1.le l2).le ((l3.trans l4).trans l5)) (r2.le ((l3.trans l4).trans l5)) r5 ep) fun _ s6 w=>w.le ((((l1.trans l2).trans l3).trans l4).trans l5)
theorem DG {fz:Bool} {ks:List (T × T)} {o:Obj} {es:Array DictEntry} {ep tk:Nat} {h':Heap} {w:T} {L2:aa} (I:Inv X pins φ g L s) (h:mk fz (.ah ks) L=.ok w L2) (k:∀b u,s.heap.get? b=some u->h'.get? b=some u) (new:h'.get? s.heap.objs.size=some o) (hx:o.ExactDict) (hd:o.data=.dict es ep)
  (hz:ks.length<=Q9) (hl:ks.length=es.size) (hn:(ks.map (·.1)).Nodup) (hm:fm (ks.map (·.1))=true) (hh:∀(i:Nat) x e,ks[i]?=some x->es[i]?=some e->e.hash=hT X.w x.1/\RT g none x.1 e.key/\RT g none x.2 e.val) :
  EP X pins φ g w L2 (.ref s.heap.objs.size) { s with heap:=h',toks:=tk }:=by
 have big:(s.heap.objs.size == sysModules)=false:=by
  have h1:sysModules<s.heap.objs.size:=S2 (by decide) (I.mod.glob.keeps I.bk).lt;simpa using RU h1
 have rt:∀(g1:G) (q:Option (Rm × Rm)),Le g g1->qH q s.heap.objs.size s.heap.objs.size->g1.kn q.isNone s.heap.objs.size o->RT g1 q (.ah ks) (.ref s.heap.objs.size):=fun g1 q l ht hk =>
  .ah ht hk hx hd hz hl ⟨hn,hm⟩ big (fun i x e e1 e2=>by rw [l.w,I.gw];exact(hh i x e e1 e2).1) (fun i x e e1 e2=>(hh i x e e1 e2).2.1.le l) fun i x e e1 e2=>(hh i x e e1 e2).2.2.le l
 unfold mk at h;split at h
 ·cases h
  exact⟨_,Le.lay I.fresh,I.laid k (Q3 _) new,rt _ none (Le.lay I.fresh) (.inl rfl) (.inl aj)⟩
 ·cases h
  refine⟨_,Le.new I.fresh,I.new k (Q3 _) new (rt _ _ (Le.new I.fresh) (.inr rfl) (.inl aj)),?_⟩;have:=I.rel.len
  exact .ref (p:=(s.heap.objs.size,s.heap.objs.size)) (by show at_ ((_,_)::g.α) _=_;rw [<- this];exact cT)
theorem Ad {fz:Bool}:PE X (.Dict [] [] pos) (ik fz):=fun {_ _ _ _ s _ _} I h =>
 wpAny_Dict_empty (DG (tk:=s.toks) I h (fun b u e=>QK _ e) (QM _ rfl) ⟨rfl,rfl,rfl⟩ rfl (Rf _) rfl UA rfl fun i x e e1 _=>by simp at e1)
end
theorem DH {prog:RY} {w:SU} {A:RH} {E:QN->QP->Prop} {s:QP} {a:Rm} {o:Obj} {xs:Array QN} {k:Nat} {Q:Option QN->QP->Prop}
  (hx:s.heap.get? a=some o) (hc:o.cls=.type "list") (Gq:o.data=.seq xs k) (hd:o.dict=none) (hA:A.handled=none)
  (h:∀h' tk e,Xo s.heap h' e "AttributeError"->Q none { s with heap:=h',toks:=tk }) :
  QZ (model prog w) A (getAttr? (.ref a) "keys") Q E s:=by
 obtain⟨c,ah,dat,sl⟩:=o;simp only at hc Gq hd;subst hc Gq hd;obtain⟨hp,g,d,tk,os⟩:=s;have hT:∀tk',(⟨hp,g,d,tk',os⟩:QP).TypeIs (.ref a) "list":=fun _=>⟨_,hx,rfl⟩
 have f1:=sub_AttributeError;have f3:=TN.lookup
 have f4:=TN.bind (.ref a);have f5:=am_list_getattr_none
 have hmiss:typeLookup (.type "list") "keys"=pure none:=by rw [typeLookup_type,builtinLookup_eq_fast];kernel_rfl
 unfold getAttr? getAttrBy? getAttrBy
 repeat (any_goals (first|assumption|exact hT _|((with_reducible show QZ _ _ (call (UU "list.__getattribute__") _ _) _ _ _);refine call_meets TN (hT _) am_entry_list_getattribute (PySem.F.args_list_getattribute_2 _ _) (meets_getattribute_miss_list a xs k sl "keys" _ hmiss (by decide +kernel) (by decide)) ⟨hx,hA,fun h' tk' e hx'=>?_⟩)|wp_step))
 obtain⟨t',u',he⟩:=hx'.there;show QZ _ _ (getattributeRaised _ _ _ _ _ _ _) _ _ _
 unfold getattributeRaised
 repeat (any_goals (first|assumption|wp_step))
 exact h _ _ _ hx'.of
theorem noKeysT {prog:RY} {w:SU} {A:RH} {E:QN->QP->Prop} {s:QP} {a:Rm} {xs:Array QN} {k:Nat} {sl:Array (Option QN)} {Q:Option QN->QP->Prop}
  (hx:s.heap.get? a=some ⟨.type "tuple",none,.seq xs k,sl⟩) (hA:A.handled=none)
  (h:∀h' tk e,Xo s.heap h' e "AttributeError"->Q none { s with heap:=h',toks:=tk }) :
  QZ (model prog w) A (getAttr? (.ref a) "keys") Q E s:=by
 obtain⟨hp,g,d,tk,os⟩:=s;have hT:∀tk',(⟨hp,g,d,tk',os⟩:QP).TypeIs (.ref a) "tuple":=fun _=>⟨_,hx,rfl⟩
 have f1:=sub_AttributeError;have f3:=TK.lookup
 have f4:=TK.bind (.ref a);have f5:=am_tuple_getattr_none
 have hmiss:typeLookup (.type "tuple") "keys"=pure none:=by rw [typeLookup_type,builtinLookup_eq_fast];kernel_rfl
 unfold getAttr? getAttrBy? getAttrBy
 repeat (any_goals (first|assumption|exact hT _|((with_reducible show QZ _ _ (call (UU "tuple.__getattribute__") _ _) _ _ _);refine call_meets TK (hT _) am_entry_tuple_getattribute (PySem.F.args_tuple_getattribute_2 _ _) (meets_getattribute_miss_tuple a xs k sl "keys" _ hmiss (by decide +kernel) (by decide)) ⟨hx,hA,fun h' tk' e hx'=>?_⟩)|wp_step))
 obtain⟨t',u',he⟩:=hx'.there;show QZ _ _ (getattributeRaised _ _ _ _ _ _ _) _ _ _
 unfold getattributeRaised
 repeat (any_goals (first|assumption|wp_step))
 exact h _ _ _ hx'.of
theorem entry_dul:entryFor table "dict.update.loop"=some Builtin.«dict.update.loop»:=entryFor_of_tree (by kernel_rfl)
theorem plain_dul:plainId "dict.update.loop"=true:=by decide +kernel
theorem prsOf_at:∀{ys:List T} {ps:List (T × T)},prsOf ys=some ps->ys.length=ps.length/\∀(i:Nat) p,ps[i]?=some p->ys[i]?=some (.tup [p.1,p.2])
 | [],ps,h=>by cases h;exact⟨rfl,fun i p e=>by simp at e⟩
 | y::ys,ps,h=>by
  unfold prsOf at h;split at h
  ·rename_i k x Qt h2
   cases h;obtain⟨h3,h4⟩:=prsOf_at h2;refine⟨by simp [h3],fun i p e=>?_⟩;cases i with
   | zero=>cases e;rfl
   | succ i=>exact h4 i p (by simpa using e)
  ·cases h
theorem wG (ks:List (T × T)) (y t:T):(dput ks y t).length<=ks.length+1:=by
 unfold dput;split
 ·simp
 ·simp
theorem uz {ks:List (T × T)} {y t:T} {q:T->Prop} (h:∀p∈ks,q p.1) (hy:q y):∀p∈dput ks y t,q p.1:=by
 unfold dput;split
 ·intro p hp
  obtain⟨p',h1,rfl⟩:=Rj.mp hp;split
  ·exact h p' h1
  ·exact h p' h1
 ·intro p hp
  rcases RB.mp hp with h1|h1
  ·exact h p h1
  ·have:p=(y,t):=by simpa using h1
   rw [this];exact hy
theorem Ae (ps:List (T × T)):(m5 ps).length<=ps.length:=by
 have key:∀(ps acc:List (T × T)),(ps.foldl (fun acc p=>dput acc p.1 p.2) acc).length<=acc.length+ps.length:=by
  intro ps;induction ps with
  | nil=>intro acc;simp
  | cons p r ih =>
   intro acc;have z:=ih (dput acc p.1 p.2)
   have z2:=wG acc p.1 p.2;rw [US,QX];omega
 have:=key ps [];unfold m5;simpa using this
theorem wH {ps:List (T × T)} {q:T->Prop} (h:∀p∈ps,q p.1):∀p∈m5 ps,q p.1:=by
 have key:∀(ps acc:List (T × T)),(∀p∈ps,q p.1)->(∀p∈acc,q p.1)->∀p∈ps.foldl (fun acc p=>dput acc p.1 p.2) acc,q p.1:=by
  intro ps;induction ps with
  | nil=>intro acc _ h;exact h
  | cons p r ih =>
   intro acc h1 h2;exact ih _ (fun p hp=>h1 p (QV _ hp)) (uz h2 (h1 p QR))
 exact key ps [] h fun p hp=>by simp at hp
theorem wI {ps:List (T × T)} {i:Nat} {p:T × T} (h:ps[i]?=some p):m5 (ps.take (i+1))=dput (m5 (ps.take i)) p.1 p.2:=by
 unfold m5;rw [Xb,h,List.foldl_append];rfl
theorem wJ {ps:List (T × T)} {i:Nat} {p:T × T} (hm:fm (ps.map (·.1))=true) (h:ps[i]?=some p):dJ (m5 (ps.take i)) p.1:=by
 unfold dJ;unfold fm at hm ⊢;rw [S1,S1] at hm ⊢;have part:∀(f:T->Bool),(ps.map (·.1)).all f=true->(p.1::(m5 (ps.take i)).map (·.1)).all f=true:=fun f hf=>by
  have hf:=QO.mp hf;refine QO.mpr fun x hx=>?_
  rcases Q5.mp hx with rfl|hx
  ·exact hf _ (Ry (RM h))
  ·obtain⟨q,hq,rfl⟩:=Rj.mp hx
   exact wH (q:=fun x=>f x=true) (fun q hq=>hf _ (Ry (W7 hq))) q hq
 rcases hm with(hm|hm)|hm
 ·exact .inl (.inl (part _ hm))
 ·exact .inl (.inr (part _ hm))
 ·rw [QS] at hm ⊢
  have h1:ps.length<=1:=by simpa using hm.1
  have h2:=(Q2.mp h).1;have h0:i=0:=by omega
  exact .inr ⟨by rw [h0];rfl,part _ hm.2⟩
section
variable {X:Cx} {pins:aJ} {φ:Fr} {g g0:G} {L L':aa} {s:QP} {ys:List T} {us:List QN} {ps:List (T × T)} {a it l:Rm} {ol:Obj} {A:RH} {R:Result->QP->Prop}
theorem q8 (hu:A.in1.units+8<cLine) (ch:List Rm) (W:Nat->Heap->Prop) (hm:fm (ps.map (·.1))=true) (hlen:ps.length<=100000) (yX:∀c∈ch,c≠a)
  (frame:∀i h h',W i h->(∀c,c≠a->h'.get? c=h.get? c)->W i h')
  (next:∀{E:QN->QP->Prop} (i:Nat) (s':QP) (g':G) (p:T × T) (Q:Option QN->QP->Prop),ps[i]?=some p->Le g0 g'->a<s'.heap.objs.size->(∀h1,(∀b o,b∉ch->s'.heap.get? b=some o->h1.get? b=some o)->Inv X pins φ g' (.ah (m5 (ps.take i))::L) { s' with heap:=h1 })->W i s'.heap ->
   (∀h1 t o uk uv n,W (i+1) h1->(∀b o,b∉ch->s'.heap.get? b=some o->h1.get? b=some o)->h1.get? t=some o->o.cls=.type "tuple"->o.data=.seq #[uk,uv] n->RT g' none p.1 uk->RT g' none p.2 uv->Q (some (.ref t)) { s' with heap:=h1 })->QZ (model X.prog X.w) A.in1 (pyNext (.ref it)) Q E s')
  (last:∀{E:QN->QP->Prop} (s':QP) (Q:Option QN->QP->Prop),W ps.length s'.heap->(∀h2,(∀b o,b∉ch->s'.heap.get? b=some o->h2.get? b=some o)->Q none { s' with heap:=h2 })->QZ (model X.prog X.w) A.in1 (pyNext (.ref it)) Q E s')
  (fin:∀s' g',Le g0 g'->Inv X pins φ g' (.ah (m5 ps)::L) s'->RT g' none (.ref L.length) (.ref a)->R (.ok (.ret .none)) s') :
  ∀(k i:Nat) (s':QP) (g':G),ps.length - i=k->i<=ps.length->Le g0 g'->Inv X pins φ g' (.ah (m5 (ps.take i))::L) s'->RT g' none (.ref L.length) (.ref a)->(∀c∈ch,eO X pins g'.H c)->W i s'.heap ->
   QZ (model X.prog X.w) A.in1 (Builtin.«dict.update.loop» ⟨[.ref a,.ref it,rawInt (i:Int),.none],[]⟩) (fun fin s'=>match fin with|.done f=>R (.ok f) s'|.again c'=>c'.quiet=true/\codeAny (model X.prog X.w) A c' R s') (fun e s'=>R (.error e) s') s':=by
 intro k;induction k with
 | zero =>
  intro i s' g' hk hi l0 J rd hf hW;obtain rfl:i=ps.length:=by omega
  unfold Builtin.«dict.update.loop»;dsimp only [rawInt];refine QJ (last s' _ hW fun h2 hx=>?_);dsimp only;show QZ _ _ (Builtin.Dict.addKeywords a [] >>= _) _ _ _
  refine QJ (QL (QL ?_));rw [RX (Q3 _)] at J;exact fin _ g' l0 (J.turned (t':=s'.toks) (ch:=ch) hx hf) rd
 | succ k ih =>
  intro i s' g' hk hi l0 J rd hf hW;have Oi:i<ps.length:=by omega
  have ep:=Ge9 Oi;have JJ:a<s'.heap.objs.size:=by
   obtain⟨p,o,es,ep,ea,hp,oX,Qu,D2⟩:=J.mH rd (by unfold at_;rw [if_pos rfl]);cases ea;exact Q1 D2.ho
  unfold Builtin.«dict.update.loop»;dsimp only [rawInt];refine QJ (next i s' g' _ _ ep l0 JJ (fun h1 k=>J.turned (t':=s'.toks) (ch:=ch) k hf) hW fun h1 t ot uk uv n Oj va IP DI JK rk rv=>?_);dsimp only;have J1:=J.turned (t':=s'.toks) (ch:=ch) va hf
  have Ol:UY { s' with heap:=h1 } (.ref t) "tuple":=⟨ot,IP,DI⟩;refine QJ (wpAny_holding (QJ ?_));have JL:∀{E':QN->QP->Prop} {Q':List QN->QP->Prop},Q' [uk,uv] { s' with heap:=h1 }->QZ (model X.prog X.w) A.in1 (WD (.ref t)) Q' E' { s' with heap:=h1 }:=fun {E' Q'} hq'=>by
   unfold WD;refine QJ (wpAny_typeOf Ol ?_);rw [if_pos (by decide)];refine QJ (wpAny_seqItems IP JK (QL ?_));exact hq'
  refine wpAny_tryCatch (JL ?_);dsimp only;have hz:(m5 (ps.take i)).length<Q9:=by
   have z:=Ae (ps.take i);rw [Sw] at z;rw [Sr];omega
  refine wpAny_holding (wpAny_mono (sX (n:=L.length) (E:=fun e s'=>R (.error e) s') J1 hu (by unfold at_;rw [if_pos rfl]) rd rk rv hz (wJ hm ep)) (fun _ s2 h2=>?_) fun _ _ e=>e);obtain⟨⟨g2,l2,J2,hH⟩,Oo⟩:=h2;refine QL ?_;refine⟨plainId_quiet plain_dul _,codeAny_builtin entry_dul ?_⟩;rw [RN plain_dul _];have ei:((i:Int)+1)=((i+1:Nat):Int):=by push_cast;rfl
  rw [ei];have J3:Inv X pins φ g2 (.ah (m5 (ps.take (i+1)))::L) s2:=by
   rw [wI ep];have z:put (.ah (m5 (ps.take i))::L) L.length (.ah (dput (m5 (ps.take i)) ps[i].1 ps[i].2))=.ah (dput (m5 (ps.take i)) ps[i].1 ps[i].2)::L:=by unfold put;rw [if_pos rfl]
   rw [<- z];exact J2
  exact ih (i+1) s2 g2 (by omega) (by omega) (l0.trans l2) J3 (rd.le l2) (fun c hc=>⟨by rw [hH c (yX c hc)];exact(hf c hc).1,(hf c hc).2⟩) (frame _ _ _ Oj Oo)
theorem wK {u:QN} {x y:T} {g':G} {s':QP} (J:Inv X pins φ g' L s') (ru:RT g' none (.tup [x,y]) u):∃t o uk uv n,u=.ref t/\s'.heap.get? t=some o/\o.cls=.type "tuple"/\o.data=.seq #[uk,uv] n/\RT g' none x uk/\RT g' none y uv:=by
 obtain⟨t,Oq,et,⟨ot,IP,DI,n,JK⟩,rt,_⟩:=J.tup ru;obtain⟨uk,uv,e2,rk,rv⟩:=ft rt;have e3:Oq = #[uk,uv]:=by apply Array.ext';simpa using e2
 subst e3;exact⟨t,ot,uk,uv,n,et,IP,DI,JK,rk,rv⟩
theorem wL {i:Nat} {p:T × T} (r0:bM g0 ys us) (hp:prsOf ys=some ps) (ep:ps[i]?=some p):∃u,us[i]?=some u/\RT g0 none (.tup [p.1,p.2]) u:=by
 have ey:=(prsOf_at hp).2 i p ep;have hl:=Q0 r0
 have hi:=(Q2.mp ey).1;have eu:=Ge9 (l:=us) (i:=i) (by omega)
 exact⟨_,eu,qI r0 i _ _ ey eu⟩
theorem wM (r0:bM g0 ys us) (hp:prsOf ys=some ps):us.length<=ps.length:=by
 have h1:=Q0 r0;have h2:=(prsOf_at hp).1
 omega
theorem sY {t:T} {u:QN} {w:T} (hu:X.A.units+20<cLine) (I:Inv X pins φ g L s) (ru:RT g none t u) (ht:vw L t=.lst ys\/vw L t=.tup ys) (h:sC ys L=.ok w L'):QZ (model X.prog X.w) X.A (call (.type "dict") [u]) (EP X pins φ g w L') F0 s:=by
 have fS:X.A.in1.in1.units+8<cLine:=by show X.A.units+1+1+8<cLine;omega
 unfold sC at h;split at h
 ·rename_i ps Af
  obtain⟨⟨hm,hlen⟩,h⟩:=ak h;cases h;have vS:g.H s.heap.objs.size=none:=I.fresh
  have big:(s.heap.objs.size == sysModules)=false:=by
   have h1:sysModules<s.heap.objs.size:=S2 (by decide) (I.mod.glob.keeps I.bk).lt;simpa using RU h1
  have J0:=I.new (c:=.ah []) (o:={ cls:=.type "dict",data:=.dict #[] }) (h':=s.heap.push { cls:=.type "dict",data:=.dict #[] }) (t':=s.toks) (fun b u e=>QK _ e) (Q3 _) (QM _ rfl)
   (.ah (.inr rfl) (.inl aj) ⟨rfl,rfl,rfl⟩ rfl (Rf _) rfl ⟨UA,rfl⟩ big (fun i x e e1 _=>by simp at e1) (fun i x e e1 _=>by simp at e1) fun i x e e1 _=>by simp at e1)
  have l0:=Le.new (o:={ cls:=.type "dict",data:=.dict #[] }) vS;have rd:RT (g.new s.heap.objs.size { cls:=.type "dict",data:=.dict #[] }) none (.ref L.length) (.ref s.heap.objs.size):=by
   have:=I.rel.len;exact .ref (p:=(s.heap.objs.size,s.heap.objs.size)) (by show at_ ((_,_)::g.α) _=_;rw [<- this];exact cT)
  refine callType_codes (Q₁:=fun obj s₁=>obj=.ref s.heap.objs.size/\s₁={ s with heap:=s.heap.push { cls:=.type "dict",data:=.dict #[] } }) WE (VD _) Wm (kt_code_dict_new _ ⟨rfl,rfl⟩) ?_;rintro obj s₁ ⟨rfl,rfl⟩;have q9:UY { s with heap:=s.heap.push { cls:=.type "dict",data:=.dict #[] } } (.ref s.heap.objs.size) "dict":=⟨_,QM _ rfl,rfl⟩
  refine⟨q9,V9 _ _,?_⟩;unfold Builtin.«dict.__init__»;refine QJ ?_;unfold Wa;refine QJ (wpAny_notOrdered_dict q9 ?_);show QZ _ _ (pure (s.heap.objs.size,[u])) _ _ _
  refine QL ?_;show QZ _ _ (SH "dict.__init__" s.heap.objs.size u [] .none) _ _ _
  unfold SH;obtain⟨q,v⟩:=I.view ru;rcases ht with ht|ht
  ·rw [ht] at v
   obtain⟨l,its,n,rfl,hg,rr,hz⟩:=I.lst v;have wN:(s.heap.push { cls:=.type "dict",data:=.dict #[] }).get? l=some { cls:=.type "list",data:=.seq its n }:=QK _ hg
   refine QJ (wpAny_typeOf (T:="list") ⟨_,wN,rfl⟩ ?_);rw [if_pos (by decide)];refine QJ (DH wN rfl rfl rfl I.ok.hd fun h1 DJ e hx=>?_);rw [if_pos (show(none:Option QN).isNone=true from rfl)];refine QJ (wpAny_rule ?_);have uA:=hx.keeps _ _ wN
   have J1:=J0.kept (t':=DJ) (h':=h1) fun b o e=>hx.keeps b o e
   refine QJ (wpAny_pyIter_list (s:={ s with heap:=h1,toks:=DJ }) (ae uA) ?_);refine QL ⟨plainId_quiet plain_dul _,codeAny_builtin entry_dul ?_⟩;rw [RN plain_dul _];have J2:=J1.kept (t':=DJ) (h':=h1.push { cls:=.type "list_iterator",data:=.fields #[.ref l,.int 0 0] }) fun b o e=>QK _ e
   have hsz:s.heap.objs.size<h1.objs.size:=Q1 (hx.keeps _ _ (QM s.heap (o:={ cls:=.type "dict",data:=.dict #[] }) rfl));refine q8 (A:=X.A.in1) (a:=s.heap.objs.size) (it:=h1.objs.size) (L:=L) fS [h1.objs.size] (fun i h=>h.get? l=some { cls:=.type "list",data:=.seq its n }/\h.IsListIter h1.objs.size l i) hm hlen (fun c hc=>by rw [Rr.mp hc];exact RU hsz)
    (fun i h h' ⟨q0,o,q1,q2⟩ e=>⟨(e l (Rc (Q1 hg))).trans q0,o,(e _ (RU hsz)).trans q1,q2⟩) (fun i s' g' p Q ep lg _ J ⟨lY,ht⟩ hQ=>?_) (fun s' Q ⟨lY,ht⟩ hQ=>?_) (fun s' g' lg J Gr=>?_)
    ps.length 0 _ _ rfl (Rf _) (Le.refl _) J2 rd (fun c hc=>by rw [Rr.mp hc];exact J1.qK (Q3 _) (J1.hok.fresh (Q3 _))) ⟨QK _ uA,_,QM _ rfl,rfl,rfl⟩
   ·obtain⟨u,eu,ru⟩:=wL (rr.le l0) Af ep
    refine wpAny_pyNext_list_item (x:=u) ht (ae lY) (by simpa using eu) fun h2 a b=>?_
    have kp:∀c o,c∉[h1.objs.size]->s'.heap.get? c=some o->h2.get? c=some o:=fun c o hc e=>(b.2 c fun z=>hc (by simp [z])).trans e
    obtain⟨t,o,uk,uv,n,rfl,e1,e2,e3,rk,rv⟩:=wK (J h2 kp) (ru.le lg);exact hQ h2 t o uk uv n ⟨kp l _ (by simpa using Rc (S2 (Q1 hg) hsz)) lY,a⟩ kp e1 e2 e3 rk rv
   ·exact wpAny_pyNext_list_end I.ok.hd ht (ae lY) (by simpa using wM (rr.le l0) Af) fun h2 hx=>hQ h2 fun c o hc e=>hx c o (fun z=>hc (by simp [z])) e
   ·exact⟨rfl,g',l0.trans lg,J,Gr⟩
  ·rw [ht] at v
   obtain⟨l,its,n,sl,rfl,hg,rr,hz⟩:∃l its n sl,u=.ref l/\s.heap.get? l=some ⟨.type "tuple",none,.seq its n,sl⟩/\bM g ys its.toList/\ys.length<=Q9:=by
    have v':=v;cases v with
    | tup hk hc hd hz hl hi =>
     rename_i a o its n;obtain⟨oc,od,dt,sl⟩:=o;obtain⟨h1,h2⟩:=hc;simp only at h1 h2 hd;subst h1 h2 hd;exact⟨_,_,_,_,rfl,I.kn hk,cS (by simpa using hl) fun i x v e1 e2=>hi i x v e1 (by simpa using e2),hz⟩
   have rf:∀{h:Heap},h.get? l=some ⟨.type "tuple",none,.seq its n,sl⟩->h.IsTuple l its:=fun e=>⟨_,e,rfl,n,rfl⟩
   have wN:(s.heap.push { cls:=.type "dict",data:=.dict #[] }).get? l=some ⟨.type "tuple",none,.seq its n,sl⟩:=QK _ hg;refine QJ (wpAny_typeOf (T:="tuple") ⟨_,wN,rfl⟩ ?_);rw [if_pos (by decide)];refine QJ (noKeysT wN I.ok.hd fun h1 DJ e hx=>?_);rw [if_pos (show(none:Option QN).isNone=true from rfl)];refine QJ (wpAny_rule ?_);have uA:=hx.keeps _ _ wN
   have J1:=J0.kept (t':=DJ) (h':=h1) fun b o e=>hx.keeps b o e
   refine QJ (wpAny_pyIter_tuple (s:={ s with heap:=h1,toks:=DJ }) (rf uA) ?_);refine QL ⟨plainId_quiet plain_dul _,codeAny_builtin entry_dul ?_⟩;rw [RN plain_dul _];have J2:=J1.kept (t':=DJ) (h':=h1.push { cls:=.type "tuple_iterator",data:=.fields #[.ref l,.int 0 0] }) fun b o e=>QK _ e
   have hsz:s.heap.objs.size<h1.objs.size:=Q1 (hx.keeps _ _ (QM s.heap (o:={ cls:=.type "dict",data:=.dict #[] }) rfl));refine q8 (A:=X.A.in1) (a:=s.heap.objs.size) (it:=h1.objs.size) (L:=L) fS [h1.objs.size] (fun i h=>h.get? l=some ⟨.type "tuple",none,.seq its n,sl⟩/\h.IsTupleIter h1.objs.size l i) hm hlen (fun c hc=>by rw [Rr.mp hc];exact RU hsz)
    (fun i h h' ⟨q0,o,q1,q2⟩ e=>⟨(e l (Rc (Q1 hg))).trans q0,o,(e _ (RU hsz)).trans q1,q2⟩) (fun i s' g' p Q ep lg _ J ⟨lY,ht⟩ hQ=>?_) (fun s' Q ⟨lY,ht⟩ hQ=>?_) (fun s' g' lg J Gr=>?_)
    ps.length 0 _ _ rfl (Rf _) (Le.refl _) J2 rd (fun c hc=>by rw [Rr.mp hc];exact J1.qK (Q3 _) (J1.hok.fresh (Q3 _))) ⟨QK _ uA,_,QM _ rfl,rfl,rfl⟩
   ·obtain⟨u,eu,ru⟩:=wL (rr.le l0) Af ep
    refine wpAny_pyNext_tuple_item (x:=u) ht (rf lY) (by simpa using eu) fun h2 a b=>?_
    have kp:∀c o,c∉[h1.objs.size]->s'.heap.get? c=some o->h2.get? c=some o:=fun c o hc e=>(b.2 c fun z=>hc (by simp [z])).trans e
    obtain⟨t,o,uk,uv,n,rfl,e1,e2,e3,rk,rv⟩:=wK (J h2 kp) (ru.le lg);exact hQ h2 t o uk uv n ⟨kp l _ (by simpa using Rc (S2 (Q1 hg) hsz)) lY,a⟩ kp e1 e2 e3 rk rv
   ·exact wpAny_pyNext_tuple_end I.ok.hd ht (rf lY) (by simpa using wM (rr.le l0) Af) fun h2 hx=>hQ h2 fun c o hc e=>hx c o (fun z=>hc (by simp [z])) e
   ·exact⟨rfl,g',l0.trans lg,J,Gr⟩
 ·cases h
theorem uB (hu:X.A.units+20<cLine):cR X (.type "dict") bK:=fun {_ _ g L s _ _ _ _} I r h=>by
 unfold bK at h;split at h
 ·obtain⟨u,rfl,ru⟩:=bo r
  split at h
  ·exact sY hu I ru (.inl (by assumption)) h
  ·exact sY hu I ru (.inr (by assumption)) h
  ·rename_i ev
   cases h;obtain⟨q,v⟩:=I.view ru;rw [ev] at v;obtain⟨a,o,ep,rfl,_,_,hs,D⟩:=I.ik v;refine PySem.kt_call_dict hs D.dictOf (by decide) fun h' hm sb=>?_
   obtain⟨od,es,en,e1,e2,e3,_,e4,_⟩:=hm;have kp:∀b u,s.heap.get? b=some u->h'.get? b=some u:=fun b u e=>(sb.2 b (Rc (Q1 e))).trans (QK _ e)
   obtain rfl:es = #[]:=by
    have:=Pairs.length e4;exact SN.mp (by simpa using this)
   have big:(s.heap.objs.size == sysModules)=false:=by
    have h1:sysModules<s.heap.objs.size:=S2 (by decide) (I.mod.glob.keeps I.bk).lt;simpa using RU h1
   refine⟨_,Le.new I.fresh,I.new (t':=s.toks) kp (Q3 _) e1 (.ah (.inr rfl) (.inl aj) e2 e3 (Rf _) rfl ⟨UA,rfl⟩ big (fun i x e e1 _=>by simp at e1) (fun i x e e1 _=>by simp at e1) fun i x e e1 _=>by simp at e1),?_⟩;have:=I.rel.len
   exact .ref (p:=(s.heap.objs.size,s.heap.objs.size)) (by show at_ ((_,_)::g.α) _=_;rw [<- this];exact cT)
  ·cases h
 ·cases h
end
end M
namespace L2
open PySem PySem.W PyProof.Rows
noncomputable def b7 {α:Type} (lt:Nat->Nat->Bool) (n:Nat):KasT α->(α->Prop)->Prop
 | .ret a,Q=>Q a
 | .ask i j k,Q=>i<n/\j<n/\b7 lt n (k (lt i j)) Q
theorem b7.mono {α:Type} {lt:Nat->Nat->Bool} {n:Nat} {Q Q':α->Prop} (hq:∀a,Q a->Q' a):∀{t:KasT α},b7 lt n t Q->b7 lt n t Q'
 | .ret _,h=>hq _ h
 | .ask _ _ _,⟨h1,h2,h3⟩=>⟨h1,h2,b7.mono hq h3⟩
theorem b7.bind {α β:Type} {lt:Nat->Nat->Bool} {n:Nat} {f:α->KasT β} {Q:β->Prop}:∀{t:KasT α},b7 lt n t (fun a=>b7 lt n (f a) Q)->b7 lt n (t.bind f) Q
 | .ret _,h=>h
 | .ask _ _ _,⟨h1,h2,h3⟩=>⟨h1,h2,b7.bind h3⟩
theorem b7.wp {α:Type} {lt:Nat->Nat->Bool} {n:Nat} {Q:α->Prop} {cmp:Nat->Nat->(Bool->QP->Prop)->QP->Prop} {R:α->QP->Prop} {s:QP} (hc:∀i j C,i<n->j<n->C (lt i j) s->cmp i j C s) (hq:∀a,Q a->R a s) :
  ∀{t:KasT α},b7 lt n t Q->t.kasWp cmp R s
 | .ret _,h=>hq _ h
 | .ask _ _ _,⟨h1,h2,h3⟩=>hc _ _ _ h1 h2 (b7.wp hc hq h3)
structure WO (lt:Nat->Nat->Bool):Prop where
 uC:∀a b,lt a b=true->lt b a=false
 tr:∀a b c,lt b a=false->lt c b=false->lt c a=false
theorem WO.BE {lt:Nat->Nat->Bool} (W:WO lt) (a:Nat):lt a a=false:=by
 cases h:lt a a with
 | false=>rfl
 | true=>have:=W.uC a a h;rw [h] at this;exact this
theorem WO.up {lt:Nat->Nat->Bool} (W:WO lt) {a b c:Nat} (h1:lt a b=true) (h2:lt c b=false):lt a c=true:=by
 cases h:lt a c with
 | true=>rfl
 | false=>have:=W.tr b c a h2 h;rw [h1] at this;exact this.symm
noncomputable def o7 (lt:Nat->Nat->Bool) (p:Array Nat) (m:Nat):Prop:=∀i j,i<j->j<m->lt (p.getD j 0) (p.getD i 0)=false
noncomputable def ve (lt:Nat->Nat->Bool) (p:Array Nat) (m:Nat):Prop:=∀i j,i<j->j<m->lt (p.getD i 0) (p.getD j 0)=false
noncomputable def Arr (n:Nat) (p:Array Nat):Prop:=p.size=n/\p.toList.Perm (RV n)
theorem Arr.lt {n:Nat} {p:Array Nat} (h:Arr n p) {k:Nat} (hk:k<n):p.getD k 0<n:=by
 have hs:k<p.size:=by rw [h.1];exact hk
 have e:p.getD k 0=p[k]:=by simp [SR,hs]
 rw [e];have m:p[k]∈p.toList:=by simp
 exact R2.mp (h.2.mem_iff.mp m)
theorem Arr.of {n:Nat} {p q:Array Nat} (h:Arr n p) (hp:q.Perm p):Arr n q:=⟨hp.size_eq.trans h.1,(Array.perm_iff_toList_perm.mp hp).trans h.2⟩
theorem dg {p:Array Nat} {i j:Nat} (hj:j<=p.size) (k:Nat):(kas_rev p i j).getD k 0=if i<=k/\k<j then p.getD (i+j - 1 - k) 0 else p.getD k 0:=by
 rw [Rt,Rt,Rt];unfold kas_rev;rw [getElem?_mirror_all hj k];split <;> rfl
theorem o8 {p:Array Nat} {src d:Nat} (hs:src<p.size) (hd:d<=src) (k:Nat):(bubble p src d).getD k 0=if k=src - d then p.getD src 0 else if src - d<k/\k<=src then p.getD (k - 1) 0 else p.getD k 0:=by
 rw [Rt,Rt,Rt,Rt];rw [getElem?_bubble hs d hd k];split
 ·rfl
 ·split <;> rfl
theorem Arr.rev {n:Nat} {p:Array Nat} (h:Arr n p) (i j:Nat):Arr n (kas_rev p i j):=h.of (mirror_perm _ _ _ _)
theorem Arr.Ot {n:Nat} {p:Array Nat} (h:Arr n p) (i j:Nat):Arr n (bubble p i j):=h.of (bubble_perm _ _ _)
section
variable {lt:Nat->Nat->Bool} {n:Nat} (W:WO lt)
include W
theorem o7.more {p:Array Nat} {m:Nat} (h:o7 lt p m) (h1:1<=m) (hl:lt (p.getD m 0) (p.getD (m - 1) 0)=false):o7 lt p (m+1):=fun i j qZ hj=>by
 by_cases e:j=m
 ·subst e
  by_cases e2:i=j - 1
  ·subst e2;exact hl
  ·exact W.tr _ _ _ (h i (j - 1) (by omega) (by omega)) hl
 ·exact h i j qZ (by omega)
theorem ve.more {p:Array Nat} {m:Nat} (h:ve lt p m) (h1:1<=m) (hl:lt (p.getD (m - 1) 0) (p.getD m 0)=false):ve lt p (m+1):=fun i j qZ hj=>by
 by_cases e:j=m
 ·subst e
  by_cases e2:i=j - 1
  ·subst e2;exact hl
  ·exact W.tr _ _ _ hl (h i (j - 1) (by omega) (by omega))
 ·exact h i j qZ (by omega)
theorem rg {p:Array Nat} (hp:Arr n p):∀(f m:Nat),1<=m->m+f<=n->o7 lt p m ->
  b7 lt n (kas_asc p f m) (fun r=>m<=r/\r<=m+f/\o7 lt p r/\(r<m+f->lt (p.getD r 0) (p.getD (r - 1) 0)=true))
 | 0,m,_,_,h=>⟨Q3 _,Q3 _,h,fun z=>absurd z (by omega)⟩
 | f+1,m,h1,h2,h=>by
  refine⟨hp.lt (by omega),hp.lt (by omega),?_⟩;cases e:lt (p.getD m 0) (p.getD (m - 1) 0) with
  | true=>exact⟨Q3 _,by omega,h,fun _=>e⟩
  | false =>
   show b7 lt n (kas_asc p f (m+1)) _;exact(rg hp f (m+1) (by omega) (by omega) (h.more W h1 e)).mono fun r ⟨a,b,c,d⟩=>⟨by omega,by omega,c,fun z=>d (by omega)⟩
noncomputable def Gs (lt:Nat->Nat->Bool) (p:Array Nat) (a b:Nat):Prop:=∀i j,a<=i->i<b->a<=j->j<b->lt (p.getD i 0) (p.getD j 0)=false
omit W in
theorem ve.rev {p:Array Nat} {a m:Nat} (hm:m<=p.size) (h:ve lt p m) (he:Gs lt p a m):ve lt (kas_rev p a m) m:=fun i j qZ hj=>by
 rw [dg hm,dg hm];by_cases h1:a<=i
 ·rw [if_pos ⟨h1,by omega⟩,if_pos ⟨by omega,hj⟩]
  exact he _ _ (by omega) (by omega) (by omega) (by omega)
 ·rw [if_neg (by omega)]
  by_cases h2:a<=j
  ·rw [if_pos ⟨h2,hj⟩]
   exact h _ _ (by omega) (by omega)
  ·rw [if_neg (by omega)]
   exact h i j qZ hj
theorem jK:∀(f:Nat) (p:Array Nat) (m q:Nat),Arr n p->q+1<=m->m+f=n->ve lt p m->Gs lt p (m - (q+1)) m ->
  b7 lt n (kas_desc f p m q) (fun r=>Arr n r.1/\r.2.1<=n/\r.2.2+1<=r.2.1/\ve lt r.1 r.2.1/\Gs lt r.1 (r.2.1 - (r.2.2+1)) r.2.1)
 | 0,p,m,q,hp,hq,hm,h,he=>⟨hp,by show m<=n;omega,hq,h,he⟩
 | f+1,p,m,q,hp,hq,hm,h,he=>by
  have hB:m - 1<m:=by omega
  have hA:m - (q+1)<=m - 1:=by omega
  have Ag:m<n:=by omega
  have DK:m+1+f=n:=by omega
  have l0:=hp.lt Ag;have l1:=hp.lt (S2 hB Ag)
  refine⟨l0,l1,?_⟩;have hsz:m<=p.size:=by rw [hp.1];exact UK Ag
  have one:∀{p:Array Nat},Gs lt p (m+1 - (0+1)) (m+1):=fun i j a1 a2 a3 a4=>by
   obtain rfl:i=j:=by omega
   exact W.BE _
  cases e:lt (p.getD m 0) (p.getD (m - 1) 0) with
  | true =>
   show b7 lt n (if q > 0 then _ else _) _;split
   ·have hr:=h.rev hsz he
    have e1:(kas_rev p (m - (q+1)) m).getD m 0=p.getD m 0:=by rw [dg hsz,if_neg (fun z=>Sk _ z.2)]
    have hl:lt ((kas_rev p (m - (q+1)) m).getD (m - 1) 0) ((kas_rev p (m - (q+1)) m).getD m 0)=false:=by
     rw [e1,dg hsz,if_pos ⟨hA,hB⟩];have e2:m - (q+1)+m - 1 - (m - 1)=m - (q+1):=by omega
     rw [e2];exact W.tr _ _ _ (W.uC _ _ e) (he (m - (q+1)) (m - 1) (Q3 _) (VJ hA hB) hA hB)
    exact jK f _ (m+1) 0 (hp.rev _ _) (Ud _ _) DK (hr.more W (Ra (Ud 1 q) hq) hl) one
   ·exact jK f p (m+1) 0 hp (Ud _ _) DK (h.more W (Ra (Ud 1 q) hq) (W.uC _ _ e)) one
  | false =>
   show b7 lt n (.ask (p.getD (m - 1) 0) (p.getD m 0) _) _;refine⟨l1,l0,?_⟩;cases e2:lt (p.getD (m - 1) 0) (p.getD m 0) with
   | true=>exact⟨hp,UK Ag,hq,h,he⟩
   | false =>
    show b7 lt n (kas_desc f p (m+1) (q+1)) _;have lo:∀i,m+1 - (q+1+1)<=i->m - (q+1)<=i:=fun i a=>by omega
    have hi:∀i,i<m+1->i≠m->i<m:=fun i a b=>by omega
    refine jK f p (m+1) (q+1) hp (Wt hq) DK (h.more W (Ra (Ud 1 q) hq) e2) fun i j a1 a2 a3 a4=>?_
    by_cases c1:i=m
    ·by_cases c2:j=m
     ·rw [c1,c2];exact W.BE _
     ·rw [c1];exact W.tr _ _ _ (he (m - 1) j hA hB (lo j a3) (hi j a4 c2)) e
    ·by_cases c2:j=m
     ·rw [c2];exact W.tr _ _ _ e2 (he i (m - 1) (lo i a1) (hi i a2 c1) hA hB)
     ·exact he i j (lo i a1) (hi i a2 c1) (lo j a3) (hi j a4 c2)
theorem o9 {p:Array Nat} {m:Nat} (hp:Arr n p) (h1:1<=m) (hm:m<=n) (h:ve lt p m):b7 lt n (kas_tail3 m n p) (fun r=>Arr n r.2/\1<=r.1/\r.1<=n/\o7 lt r.2 r.1):=by
 have hsz:m<=p.size:=by rw [hp.1];exact hm
 have hr:o7 lt (kas_rev p 0 m) m:=fun i j qZ hj=>by
  rw [dg hsz,dg hsz,if_pos ⟨by omega,hj⟩,if_pos ⟨by omega,by omega⟩];exact h _ _ (by omega) (by omega)
 refine b7.bind ((rg W (hp.rev 0 m) (n - m) m h1 (by omega) hr).mono fun r ⟨a,b,c,_⟩=>?_);exact⟨hp.rev 0 m,by show 1<=r;omega,by show r<=n;omega,c⟩
theorem jo {p:Array Nat} {m:Nat} (hp:Arr n p) (hm:m+1<=n) (h:ve lt p (m+1)):b7 lt n (kas_descPart m n p) (fun r=>Arr n r.2/\1<=r.1/\r.1<=n/\o7 lt r.2 r.1):=by
 refine b7.bind ((jK W (n - (m+1)) p (m+1) 0 hp (by omega) (by omega) h fun i j a1 a2 a3 a4=>?_).mono fun r ⟨a,b,c,d,e⟩=>?_)
 ·obtain rfl:i=j:=by omega
  exact W.BE _
 ·split
  ·exact o9 W (a.rev _ _) (by omega) b (d.rev (by rw [a.1];exact b) e)
  ·exact o9 W a (by omega) b d
theorem wO {p:Array Nat} (hp:Arr n p) (h1:1<=n):b7 lt n (kas_count n p) (fun r=>Arr n r.2/\1<=r.1/\r.1<=n/\o7 lt r.2 r.1):=by
 refine b7.bind ((rg W hp (n - 1) 1 (Q3 _) (by omega) fun i j a b=>absurd a (by omega)).mono fun m ⟨a,b,c,d⟩=>?_);have Ag:m<=n:=by omega
 split
 ·exact⟨hp,a,Ag,c⟩
 ·rename_i hne
  have hne':m≠n:=fun z=>hne (beq_iff_eq.mpr z)
  have bL:m<n:=Nat.lt_of_le_of_ne Ag hne';have DK:m - 1<m:=Nat.sub_lt a Nat.one_pos
  have hd:=d (by omega);split
  ·refine⟨hp.lt h1,hp.lt (S2 DK bL),?_⟩
   cases e:lt (p.getD 0 0) (p.getD (m - 1) 0) with
   | true=>exact⟨hp,a,Ag,c⟩
   | false =>
    show b7 lt n (kas_descPart m n (kas_rev p 0 m)) _;have hsz:m<=p.size:=by rw [hp.1];exact Ag
    have all:Gs lt p 0 m:=fun i j _ hi _ hj=>by
     have z1:lt (p.getD (m - 1) 0) (p.getD j 0)=false:=by
      by_cases cj:j=m - 1
      ·subst cj;exact W.BE _
      ·exact c j (m - 1) (by omega) DK
     have z2:lt (p.getD i 0) (p.getD 0 0)=false:=by
      by_cases ci:i=0
      ·subst ci;exact W.BE _
      ·exact c 0 i (Nat.pos_of_ne_zero ci) hi
     exact W.tr _ _ _ (W.tr _ _ _ z1 e) z2
    have hf:ve lt (kas_rev p 0 m) m:=ve.rev hsz (fun i j qZ hj=>all i j (Rf _) (S2 qZ hj) (Rf _) hj) all;refine jo W (hp.rev 0 m) bL (hf.more W a ?_);rw [dg hsz,dg hsz,if_pos ⟨Rf _,DK⟩,if_neg (fun z=>Sk _ z.2)];have e2:0+m - 1 - (m - 1)=0:=by omega
    rw [e2];exact W.tr _ _ _ (W.uC _ _ hd) e
  ·obtain rfl:m=1:=by omega
   refine jo W hp bL fun i j qZ hj=>?_
   obtain rfl:i=0:=by omega
   obtain rfl:j=1:=by omega
   exact W.uC _ _ hd
theorem ky {p:Array Nat} {k:Nat} (hp:Arr n p) (hk:k<n) (h:o7 lt p k):∀(f l r:Nat),l<=r->r<=k->r - l<=f->(∀i,i<l->lt (p.getD k 0) (p.getD i 0)=false)->(∀i,r<=i->i<k->lt (p.getD k 0) (p.getD i 0)=true) ->
  b7 lt n (kas_place p k f l r) (fun x=>x<=k/\(∀i,i<x->lt (p.getD k 0) (p.getD i 0)=false)/\∀i,x<=i->i<k->lt (p.getD k 0) (p.getD i 0)=true)
 | 0,l,r,a,b,c,d,e=>by
  obtain rfl:l=r:=by omega
  exact⟨b,d,e⟩
 | f+1,l,r,a,b,c,d,e=>by
  show b7 lt n (if l≥r then _ else _) _;split
  ·obtain rfl:l=r:=by omega
   exact⟨b,d,e⟩
  ·have m1:l<=(l+r) / 2:=by omega
   have m2:(l+r) / 2<r:=by omega
   have m3:(l+r) / 2<k:=Rp m2 b;refine⟨hp.lt hk,hp.lt (S2 m3 hk),?_⟩;cases q:lt (p.getD k 0) (p.getD ((l+r) / 2) 0) with
   | true =>
    refine ky hp hk h f l ((l+r) / 2) m1 (UK m3) (by omega) d fun i h1 h2=>?_
    by_cases c1:i=(l+r) / 2
    ·subst c1;exact q
    ·exact W.up q (h _ i (by omega) h2)
   | false =>
    refine ky hp hk h f ((l+r) / 2+1) r m2 b (by omega) (fun i h1=>?_) e;by_cases c1:i=(l+r) / 2
    ·subst c1;exact q
    ·exact W.tr _ _ _ (h i ((l+r) / 2) (by omega) m3) q
theorem wQ:∀(f:Nat) (p:Array Nat) (k:Nat),Arr n p->k+f=n->o7 lt p k->b7 lt n (kas_bin f p k) (fun q=>Arr n q/\o7 lt q n)
 | 0,p,k,hp,hk,h=>by
  obtain rfl:k=n:=by omega
  exact⟨hp,h⟩
 | f+1,p,k,hp,hk,h=>by
  have hkn:k<n:=by omega
  refine b7.bind ((ky W hp hkn h k 0 k (Rf _) (Q3 _) (Nat.sub_le _ _) (fun i z=>absurd z (Nat.not_lt_zero _)) fun i z1 z2=>absurd z1 (Nat.not_le_of_lt z2)).mono fun l ⟨a,b,c⟩=>?_);have hs:k<p.size:=by rw [hp.1];exact hkn
  refine wQ f _ (k+1) (hp.Ot _ _) (by omega) fun i j qZ hj=>?_
  have e:k - (k - l)=l:=Nat.sub_sub_self a;have kl:k - l<=k:=Nat.sub_le _ _
  rw [o8 hs kl,o8 hs kl,e];by_cases j1:j=l
  ·rw [if_pos j1,if_neg (by omega),if_neg (by omega)]
   exact b i (by omega)
  ·rw [if_neg j1]
   by_cases j2:l<j/\j<=k
   ·rw [if_pos j2]
    by_cases i1:i=l
    ·rw [if_pos i1]
     exact W.uC _ _ (c (j - 1) (by omega) (by omega))
    ·rw [if_neg i1]
     by_cases i2:l<i/\i<=k
     ·rw [if_pos i2];exact h _ _ (by omega) (by omega)
     ·rw [if_neg i2];exact h _ _ (by omega) (by omega)
   ·rw [if_neg j2,if_neg (by omega),if_neg (by omega)]
    exact h i j qZ (by omega)
theorem Ah (h1:1<=n):b7 lt n (kas_sort n) (fun p=>Arr n p/\o7 lt p n):=by
 have h0:Arr n (Vl (RV n)):=⟨by simp,by simp⟩;refine b7.bind ((wO W h0 h1).mono fun r ⟨a,b,c,d⟩=>?_);have hm:max r.1 1=r.1:=by omega
 split
 ·rw [hm]
  exact wQ W _ _ _ a (by omega) d
 ·have e:r.1=n:=by omega
  rw [e] at d;exact⟨a,d⟩
end
end L2
namespace L2
open PySem PySem.W PySem.Calls PyProof.Rows
section
variable {prog:RY} {w:SU} {A:RH} {E:QN->QP->Prop} {s:QP}
theorem lZ {a:Rm} {vs:List QN} {n:Nat} {κ:SortKind} {lt:Nat->Nat->Bool} {P:PySem.Fin->QP->Prop} (W:WO lt) (ho:s.heap.get? a=some (seqObj "list" vs.toArray n)) (IQ:vs.length<64)
  (hk:2<=vs.length->∀h',(∀b o,b≠a->s.heap.get? b=some o->h'.get? b=some o)->∀Q:SortKind->QP->Prop,Q κ { s with heap:=h' }->QZ (model prog w) A (keyKind' vs.toArray) Q (fun _ _=>False) { s with heap:=h' })
  (hc:∀h',(∀b o,b≠a->s.heap.get? b=some o->h'.get? b=some o)->∀i j (C:Bool->QP->Prop),i<vs.length->j<vs.length->C (lt i j) { s with heap:=h' } ->
   QZ (model prog w) A (keyLt' κ (vs.getD i RG) (vs.getD j RG)) C (fun _ _=>False) { s with heap:=h' })
  (fin:∀p h' c,Arr vs.length p->o7 lt p vs.length->(∀b o,b≠a->s.heap.get? b=some o->h'.get? b=some o)->h'.get? a=some (seqObj "list" (Vl (p.toList.map fun i=>vs.getD i RG)) c)->P (.done (.ret .none)) { s with heap:=h' }) :
  QZ (model prog w) A (Builtin.«list.sort» ⟨[.ref a],[]⟩) P E s:=by
 have ha:a<s.heap.objs.size:=Q1 ho;obtain⟨e1,IS⟩:∃e1,(s.heap.update a (RJ fun _=>(#[]:Array QN))).get? a=some (seqObj "list" #[] e1):=⟨_,get?_update_seq ho fun _=>#[]⟩;have Gu:(((s.heap.update a (RJ fun _=>(#[]:Array QN))).push (seqObj "tuple" vs.toArray 0)).push (seqObj "list" #[] 0)).get? a=some (seqObj "list" #[] e1):=by
  rw [Uo _ _ _ (by rw [size_push',Vm];exact Rc (Sh ha)),Uo _ _ _ (by rw [Vm];exact Rc ha)];exact IS
 have keep:∀b o,b≠a->s.heap.get? b=some o->(((s.heap.update a (RJ fun _=>(#[]:Array QN))).push (seqObj "tuple" vs.toArray 0)).push (seqObj "list" #[] 0)).get? b=some o:=fun b o hb q=>by
  have bL:b<s.heap.objs.size:=Q1 q;rw [Uo _ _ _ (by rw [size_push',Vm];exact Rc (Sh bL)),Uo _ _ _ (by rw [Vm];exact Rc bL),Vz _ _ _ _ hb];exact q
 have Gv:∀p (arr:Array QN),Arr vs.length p->o7 lt p vs.length->arr=Vl (p.toList.map fun i=>vs.getD i RG)->P (.done (.ret .none)) { s with heap:=((((s.heap.update a (RJ fun _=>(#[]:Array QN))).push (seqObj "tuple" vs.toArray 0)).push (seqObj "list" #[] 0))).update a (RJ fun _=>arr) }:=fun p arr h1 h2 h3=>by
  subst h3;refine fin p _ _ h1 h2 (fun b o hb q=>?_) (get?_update_seq Gu fun _=>_);rw [Vz _ _ _ _ hb];exact keep b o hb q
 rw [list_sort_plain];refine QJ (listItems_at ho rfl ?_);refine QJ (listUpdate_at ho rfl ?_ (by rw [So,Sr];omega) (Rf _));refine QJ (seqEpoch_at IS rfl ?_);refine QJ (wpAny_newTuple ?_ (by show vs.length<=_;rw [Sr];omega));refine QJ (wpAny_newList ?_ (Rf _));refine wpAny_holding ?_;show QZ (model prog w) A _ P E { s with heap:=((s.heap.update a (RJ fun _=>(#[]:Array QN))).push (seqObj "tuple" vs.toArray 0)).push (seqObj "list" #[] 0) }
 dsimp only;by_cases h2:vs.toArray.size<2
 ·rw [if_pos h2,if_pos h2]
  refine QJ (QL ?_);rw [StateT.run_pure];refine QJ (QL ?_);dsimp only;have hr:(RV vs.length).map (fun i=>vs.getD i RG)=vs:=by
   apply Sx (by simp);intro i a1 a2;simp [a2]
  refine QJ (seqEpoch_at Gu rfl ?_);refine QJ (listUpdate_at Gu rfl ?_ (hsz2:=by rw [R9];show(pairsOf vs).size<=_;rw [pairsOf_size,Sr];omega));simp only [bne_self_eq_false,QW,if_false];refine QL (Gv (Vl (RV vs.length)) _ ⟨by simp,by simp⟩ (fun i j h1 h3=>?_) ?_)
  ·rw [So] at h2;omega
  ·show Array.map (·.2) (pairsOf vs)=_
   apply Array.toList_inj.mp;rw [Wu,pairsOf_toList];show _=(RV vs.length).map (fun i=>vs.getD i RG)
   rw [hr];exact List.map_snd_zip (by simp)
 ·rw [if_neg h2,if_neg h2]
  rw [So] at h2;refine QJ (wpAny_mono (hk (by omega) _ keep _ ?_) (fun κ' s' hq=>hq) fun _ _ x=>x.elim);refine QJ (wpAny_mono (kat_run (κ:=κ) (Q:=fun nj s'=>∃p:Array Nat,arrOf nj=p.map (kas_item (vs.toArray.zip vs.toArray))/\failedOf nj=none/\Arr vs.length p/\o7 lt p vs.length/\s'={ s with heap:=((s.heap.update a (RJ fun _=>(#[]:Array QN))).push (seqObj "tuple" vs.toArray 0)).push (seqObj "list" #[] 0) })
   (G:=fun p s'=>Arr vs.length p/\o7 lt p vs.length/\s'={ s with heap:=((s.heap.update a (RJ fun _=>(#[]:Array QN))).push (seqObj "tuple" vs.toArray 0)).push (seqObj "list" #[] 0) })
   rfl (by omega) IQ (fun p' nj s' a1 a2 a3 a4=>⟨p',a2,a3,a4.1,a4.2.1,a4.2.2⟩) ((Ah W (n:=vs.length) (by omega)).wp (fun i j C h3 h4 h5=>hc _ keep i j C h3 h4 h5) fun p hp=>⟨hp.1,hp.2,rfl⟩)) ?_ fun _ _ e=>e)
  rintro⟨⟨⟩,nj⟩ s' ⟨p,Ou,hf,hp,JM,rfl⟩;dsimp only;have JN:=kat_snds (ks:=vs) rfl Ou
  have hsz:(Vl (p.toList.map fun i=>vs.getD i RG)).size=vs.length:=by rw [So,Lm9,Sm,hp.1]
  rw [JN];refine QJ (seqEpoch_at Gu rfl ?_);refine QJ (listUpdate_at Gu rfl ?_ (Rf _) (Ra (UL hsz) (by rw [Sr];omega)));rw [hf];simp only [bne_self_eq_false,QW,if_false];exact QL (Gv p _ hp JM rfl)
end
noncomputable def rh (A:RH) (s:QP) (u v:QN) (b:Bool):Prop :=
 ∀(prog:RY) (w:SU) (E:QN->QP->Prop) (Q:QN->QP->Prop),Q (.bool b) s->QZ (model prog w) A (richCompare .Lt u v) Q E s
inductive y3 (A:RH) (s:QP):List QN->List QN->Bool->Prop
 | nn:y3 A s [] [] false
 | nc {w:QN} {ws:List QN}:y3 A s [] (w::ws) true
 | cn {v:QN} {vs:List QN}:y3 A s (v::vs) [] false
 | eq {v w:QN} {vs ws:List QN} {r:Bool} (e:S5 A s v w true) (h:y3 A s vs ws r):y3 A s (v::vs) (w::ws) r
 | ne {v w:QN} {vs ws:List QN} {r:Bool} (e:S5 A s v w false) (h:rh A s v w r):y3 A s (v::vs) (w::ws) r
section
open PySem.SeqAt
open PySem.AutoSeq1 (wpAny_loadPart')
open PySem.MeetsSeq PySem.MeetsSeq2 PySem.MeetsSeq3
theorem nJ (l b:Rm) (items fu:Array QN) (n n2:Nat) (dd JO:Option Rm) (sl JP:Array (Option QN)) (r:Bool) :
  Meets (Builtin.«tuple.__lt__» ⟨[.ref l,.ref b],[]⟩)
   (fun A R s=>s.heap.get? l=some { cls:=.type "tuple",dict:=dd,data:=.seq items n,slots:=sl }/\s.heap.get? b=some { cls:=.type "tuple",dict:=JO,data:=.seq fu n2,slots:=JP } /\
    y3 A.in1 s items.toList fu.toList r/\R (.ok (.ret (.bool r))) s) :=
 .of_wp fun prog w A R s h=>by
  obtain⟨hp,g,d,tk,os⟩:=s;obtain⟨hl,hb,hd,h⟩:=h;have f2:=V4
  wp_walk using wpAny_loadPart' hl,wpAny_loadPart' hb,wpAny_forIn_list _ (fun rest b s'=>b.1=none/\s'=⟨hp,g,d,tk,os⟩/\∃(vs ws:List QN),rest=vs.zip ws /\
   y3 A.in1 ⟨hp,g,d,tk,os⟩ vs ws r/\vs.length+fu.size=ws.length+items.size) _
  case turn =>
   rintro⟨y,x⟩ rest b s' ⟨hb',rfl,vs,ws,hz,JQ,hlen⟩;cases JQ with
   | nn=>cases hz
   | nc=>cases hz
   | cn=>rw [List.zip_nil_right] at hz;cases hz
   | @eq v w' vs' ws' _ e hr =>
    rw [Tv] at hz;injection hz with JR hrest;injection JR with hy hx;subst hy hx;simp only [QX] at hlen;refine QJ (e prog w _ _ ?_)
    wp_walk
    exact⟨rfl,rfl,_,_,hrest,hr,by omega⟩
   | @ne v w' vs' ws' _ e hr =>
    rw [Tv] at hz;injection hz with JR hrest;injection JR with hy hx;subst hy hx;refine QJ (e prog w _ _ ?_);have JM:=hr prog w
    wp_walk using JM
    exact⟨_,rfl,by simpa using h⟩
  case fin =>
   rintro⟨b1,b2⟩ s' ⟨hb',rfl,vs,ws,hz,JQ,hlen⟩;simp only at hb';subst hb';have hv:r=decide (items.size<fu.size):=by
    cases JQ with
    | nn=>simp only [RO] at hlen;exact(decide_eq_false (by omega)).symm
    | nc=>simp only [RO,QX] at hlen;exact(decide_eq_true (by omega)).symm
    | cn=>simp only [RO,QX] at hlen;exact(decide_eq_false (by omega)).symm
    | eq e hr=>rw [Tv] at hz;cases hz
    | ne e hr=>rw [Tv] at hz;cases hz
   rw [hv] at h
   wp_walk
   exact⟨_,rfl,by simpa [Builtin.Tuple.tupleCompareSizes] using h⟩
  case h =>
   exact⟨rfl,rfl,items.toList,fu.toList,rfl,hd,by simp;omega⟩
end
theorem rm {A:RH} {s:QP} {l b:Rm} {items fu:Array QN} {r:Bool} (hl:IsTup s.heap l items) (hb:IsTup s.heap b fu) (hu:A.units<cLine) (hd:y3 A.in1 s items.toList fu.toList r):rh A s (.ref l) (.ref b) r:=by
 intro prog w E Q h;obtain⟨⟨cls,dd,data,sl⟩,ho,hc,n,qA⟩:=id hl;obtain⟨⟨Ov,JO,data2,JP⟩,wR,Fz,n2,hd2⟩:=id hb;simp only at hc qA Fz hd2;subst hc qA Fz hd2;exact richCompare_meets_room (op:=.Lt) ⟨_,ho,rfl⟩ ⟨_,wR,rfl⟩ PySem.F.slot_tuple_lt PySem.F.entry_tuple_lt (PySem.F.args_tuple_lt_2 _ _) (nJ l b items fu n n2 dd JO sl JP r)
  ⟨ho,wR,hd,show Value.bool r≠W6/\Q (.bool r) s from⟨(fun x=>nomatch x),h⟩⟩ hu
end L2
namespace M
open PySem PySem.Spec PyProof.Rows
def lL (f:T->T->Bool):List T->List T->Bool
 | [],[]=>false
 | [],_::_=>true
 | _::_,[]=>false
 | a::r,b::q=>if a=b then lL f r q else f a b
def ltN:Nat->T->T->Bool
 | _+1,.int a,.int b=>decide (a<b)
 | _+1,.int _,.str _=>true
 | _+1,.int _,.tup _=>true
 | _+1,.str a,.str b=>decide (a<b)
 | _+1,.str _,.tup _=>true
 | n+1,.tup a,.tup b=>lL (ltN n) a b
 | _,_,_=>false
noncomputable def shl (f:T->T->Bool):List T->List T->Bool
 | a::r,b::q=>f a b && shl f r q
 | _,_=>true
noncomputable def vg:Nat->T->T->Bool
 | _+1,.int _,.int _=>true
 | _+1,.str _,.str _=>true
 | n+1,.tup a,.tup b=>shl (vg n) a b
 | _,_,_=>false
theorem sZ {f:T->T->Bool}:∀a:List T,lL f a a=false
 | []=>rfl
 | a::r=>by rw [lL,if_pos rfl];exact sZ r
theorem nK:∀(n:Nat) (a:T),ltN n a a=false
 | 0,a=>by cases a <;> rfl
 | n+1,a=>by
  cases a <;> first|rfl|skip
  ·exact decide_eq_false (Xp _)
  ·exact decide_eq_false (List.lt_irrefl _)
  ·exact sZ _
theorem s9 {f:T->T->Bool} {n:Nat} (hf:∀a b,kd n a=true->kd n b=true->a≠b->f a b=true\/f b a=true):∀a b:List T,a.all (kd n)=true->b.all (kd n)=true->a≠b->lL f a b=true\/lL f b a=true
 | [],[],_,_,h=>absurd rfl h
 | [],_::_,_,_,_=>.inl rfl
 | _::_,[],_,_,_=>.inr rfl
 | a::r,b::q,ha,hb,h=>by
  rw [R0,QS] at ha hb;rw [lL,lL];by_cases e:a=b
  ·subst e
   rw [if_pos rfl,if_pos rfl];exact s9 hf r q ha.2 hb.2 fun z=>h (by rw [z])
  ·rw [if_neg e,if_neg (Sy e)]
   exact hf a b ha.1 hb.1 e
theorem Ai {a b:Cs} (h:a≠b):a<b\/b<a:=by
 by_cases h1:a<b
 ·exact .inl h1
 ·by_cases h2:b<a
  ·exact .inr h2
  ·exact absurd (List.le_antisymm (List.not_lt.mp h2) (List.not_lt.mp h1)) h
theorem jL:∀(n:Nat) (a b:T),kd n a=true->kd n b=true->a≠b->ltN n a b=true\/ltN n b a=true
 | 0,a,_,h,_,_=>(IL h).elim
 | n+1,a,b,ha,hb,h=>by
  cases a <;> first|cases ha|skip
  ·cases b <;> first|cases hb|skip
   ·rename_i i j
    show decide (i<j)=true\/decide (j<i)=true;rw [decide_eq_true_eq,decide_eq_true_eq];have:i≠j:=fun e=>h (by rw [e])
    omega
   ·exact .inl rfl
   ·exact .inl rfl
  ·cases b <;> first|cases hb|skip
   ·exact .inr rfl
   ·rename_i i j
    show decide (i<j)=true\/decide (j<i)=true;rw [decide_eq_true_eq,decide_eq_true_eq];exact Ai fun e=>h (by rw [e])
   ·exact .inl rfl
  ·cases b <;> first|cases hb|skip
   ·exact .inr rfl
   ·exact .inr rfl
   ·exact s9 (fun a b=>jL n a b) _ _ ha hb fun e=>h (by rw [e])
theorem mI {f:T->T->Bool} (BE:∀a,f a a=false) (hf:∀a b c,f a b=true->f b c=true->f a c=true):∀a b c:List T,lL f a b=true->lL f b c=true->lL f a c=true
 | [],[],_,h1,_=>by cases h1
 | [],_::_,[],_,h2=>by cases h2
 | [],_::_,_::_,_,_=>rfl
 | _::_,[],_,h1,_=>by cases h1
 | _::_,_::_,[],_,h2=>by cases h2
 | a::r,b::q,c::t,h1,h2=>by
  rw [lL] at h1 h2 ⊢;by_cases e1:a=b
  ·subst e1
   rw [if_pos rfl] at h1;by_cases e2:a=c
   ·subst e2
    rw [if_pos rfl] at h2 ⊢;exact mI BE hf r q t h1 h2
   ·rw [if_neg e2] at h2 ⊢;exact h2
  ·rw [if_neg e1] at h1
   by_cases e2:b=c
   ·subst e2
    rw [if_neg e1];exact h1
   ·rw [if_neg e2] at h2
    have h3:=hf a b c h1 h2;have e3:a≠c:=fun z=>by subst z;rw [BE] at h3;cases h3
    rw [if_neg e3];exact h3
theorem JS {n:Nat} {a b:T} (h:ltN (n+1) a b=true):(∃i,a=.int i)\/(∃z,a=.str z)\/∃xs,a=.tup xs:=by
 cases a with
 | int i=>exact .inl ⟨i,rfl⟩
 | str z=>exact .inr (.inl ⟨z,rfl⟩)
 | tup xs=>exact .inr (.inr ⟨xs,rfl⟩)
 | _=>cases h
theorem Gw {n:Nat} {i:Int} {b:T} (h:ltN (n+1) (.int i) b=true):(∃j,b=.int j/\i<j)\/(∃z,b=.str z)\/∃xs,b=.tup xs:=by
 cases b with
 | int j=>exact .inl ⟨j,rfl,of_decide_eq_true h⟩
 | str z=>exact .inr (.inl ⟨z,rfl⟩)
 | tup xs=>exact .inr (.inr ⟨xs,rfl⟩)
 | _=>cases h
theorem DL {n:Nat} {z:Cs} {b:T} (h:ltN (n+1) (.str z) b=true):(∃y,b=.str y/\z<y)\/∃xs,b=.tup xs:=by
 cases b with
 | str y=>exact .inl ⟨y,rfl,of_decide_eq_true h⟩
 | tup xs=>exact .inr ⟨xs,rfl⟩
 | _=>cases h
theorem Aj {n:Nat} {xs:List T} {b:T} (h:ltN (n+1) (.tup xs) b=true):∃ys,b=.tup ys/\lL (ltN n) xs ys=true:=by
 cases b with
 | tup ys=>exact⟨ys,rfl,h⟩
 | _=>cases h
theorem eU:∀(n:Nat) (a b c:T),ltN n a b=true->ltN n b c=true->ltN n a c=true
 | 0,a,b,_,h,_=>by cases h
 | n+1,a,b,c,h1,h2=>by
  rcases JS h1 with⟨i,rfl⟩|⟨z,rfl⟩|⟨xs,rfl⟩
  ·rcases Gw h1 with⟨j,rfl,hj⟩|⟨y,rfl⟩|⟨ys,rfl⟩
   ·rcases Gw h2 with⟨k,rfl,hk⟩|⟨_,rfl⟩|⟨_,rfl⟩
    ·exact decide_eq_true (Int.lt_trans hj hk)
    ·rfl
    ·rfl
   ·rcases DL h2 with⟨_,rfl,_⟩|⟨_,rfl⟩ <;> rfl
   ·obtain⟨_,rfl,_⟩:=Aj h2;rfl
  ·rcases DL h1 with⟨y,rfl,hy⟩|⟨ys,rfl⟩
   ·rcases DL h2 with⟨x,rfl,hx⟩|⟨_,rfl⟩
    ·exact decide_eq_true (List.lt_trans hy hx)
    ·rfl
   ·obtain⟨_,rfl,_⟩:=Aj h2;rfl
  ·obtain⟨ys,rfl,hy⟩:=Aj h1
   obtain⟨zs,rfl,hz⟩:=Aj h2;exact mI (nK n) (eU n) _ _ _ hy hz
theorem DM {n:Nat} {f:Nat->T} (hk:∀i,kd n (f i)=true):L2.WO (fun i j=>ltN n (f i) (f j)):=by
 refine⟨fun a b h=>?_,fun a b c h1 h2=>?_⟩
 ·cases e:ltN n (f b) (f a) with
  | false=>rfl
  | true=>have z:=eU n _ _ _ h e;rw [nK] at z;cases z
 ·cases e:ltN n (f c) (f a) with
  | false=>rfl
  | true =>
   by_cases e1:f a=f b
   ·rw [e1] at e;rw [e] at h2;cases h2
   ·rcases jL n _ _ (hk a) (hk b) e1 with q|q
    ·rw [eU n _ _ _ e q] at h2;cases h2
    ·rw [q] at h1;cases h1
noncomputable def l6 (l:List T):Prop:=l.Pairwise fun x y=>ltN 8 y x=false
theorem wU {a b:List T} (hk:a.all (kd 8)=true) (p:a.Perm b) (ha:l6 a) (hb:l6 b):a=b :=
 List.Perm.eq_of_pairwise (fun x y hx hy h1 h2=>by
  by_cases e:x=y
  ·exact e
  ·have k:=QO.mp hk
   rcases jL 8 _ _ (k x hx) (k y (p.mem_iff.mpr hy)) e with q|q
   ·rw [q] at h2;cases h2
   ·rw [q] at h1;cases h1) ha hb p
open Classical in
def oC (l:List T):List T:=if h:∃l',l'.Perm l/\l6 l' then choose h else l
theorem ro {l l':List T} (hk:l.all (kd 8)=true) (p:l'.Perm l) (h:l6 l'):oC l=l':=by
 have ex:∃l',l'.Perm l/\l6 l':=⟨l',p,h⟩;unfold oC;rw [dif_pos ex];have z:=WV ex
 have hk':(Classical.choose ex).all (kd 8)=true:=QO.mpr fun x hx=>QO.mp hk x (z.1.mem_iff.mp hx)
 exact wU hk' (z.1.trans p.symm) z.2 h
noncomputable def qB:T->Bool
 | .tup (.str _::_)=>true
 | _=>false
noncomputable def Ak:T->Bool
 | .tup (.int _::_)=>true
 | _=>false
def jq (fz:Bool):Fn:=fun xs L=>match xs with
 | [x]=>match vw L x with
  | .lst ys=>a8 (ys.length<64/\ys.all (kd 8)=true/\(ys.all qB=true\/ys.all Ak=true)/\(ys.all fun a=>ys.all fun b=>vg 8 a b)=true) (fk fz (oC ys) L)
  | _=>.bad
 | _=>.bad
end M
namespace M
open PySem PySem.W PySem.Calls PyProof.Rows L2
section
variable {A:RH} {s:QP}
theorem BF {n:Nat}:∀(a b:List T) (vs ws:List QN),vs.length=a.length->ws.length=b.length->shl (vg n) a b=true ->
  (∀j (h1:j<a.length) (h2:j<b.length) (h3:j<vs.length) (h4:j<ws.length),S5 A s vs[j] ws[j] (decide (a[j]=b[j]))/\(vg n a[j] b[j]=true->rh A s vs[j] ws[j] (ltN n a[j] b[j])))->y3 A s vs ws (lL (ltN n) a b)
 | [],[],[],[],_,_,_,_=>.nn
 | [],b::q,[],w::ws,_,_,_,_=>.nc
 | a::r,[],v::vs,[],_,_,_,_=>.cn
 | a::r,b::q,v::vs,w::ws,l1,l2,hs,h=>by
  rw [shl,QS] at hs;obtain⟨h0,h0'⟩:=h 0 (by simp) (by simp) (by simp) (by simp);have h0:S5 A s v w (decide (a=b)):=h0
  have h0':vg n a b=true->rh A s v w (ltN n a b):=h0';rw [lL];by_cases e:a=b
  ·rw [decide_eq_true e] at h0
   rw [if_pos e];exact .eq h0 (BF r q vs ws (by simpa using l1) (by simpa using l2) hs.2 fun j a1 a2 a3 a4=>h (j+1) (by simpa using a1) (by simpa using a2) (by simpa using a3) (by simpa using a4))
  ·rw [decide_eq_false e] at h0
   rw [if_neg e];exact .ne h0 (h0' hs.1)
 | [],[],_::_,_,l,_,_,_=>by simp at l
 | [],[],[],_::_,_,l,_,_=>by simp at l
 | [],_::_,_::_,_,l,_,_,_=>by simp at l
 | [],_::_,[],[],_,l,_,_=>by simp at l
 | _::_,_,[],_,l,_,_,_=>by simp at l
 | _::_,[],_::_,_::_,_,l,_,_=>by simp at l
 | _::_,_::_,_::_,[],_,l,_,_=>by simp at l
theorem bY.lt:∀(n:Nat) {A:RH} {a b:T} {u v:QN},kd n a=true->kd n b=true->vg n a b=true->A.units+n<cLine->bY s.heap a u->bY s.heap b v->rh A s u v (ltN n a b)
 | 0,_,a,_,_,_,h,_,_,_,_,_=>(IL h).elim
 | n+1,A,a,b,u,v,ha,hb,hs,hu,ka,kb=>by
  cases ka with
  | bl=>cases ha
  | int i t =>
   cases kb with
   | int j t2=>exact fun prog w E Q h=>(PyProof.Rows.lt_int h:QZ (model prog w) A (compareOp .Lt _ _) Q E s)
   | _=>cases hs
  | str z t =>
   cases kb with
   | str z2 t2=>exact fun prog w E Q h=>(Xe (show Q (.bool (decide ((⟨z.toArray⟩:Str).cps.toList<(⟨z2.toArray⟩:Str).cps.toList))) s from h):QZ (model prog w) A (compareOp .Lt _ _) Q E s)
   | _=>cases hs
  | tup ho hc hd hl hi =>
   cases kb with
   | tup ho' hc' hd' hl' hi' =>
    rename_i a1 o1 i1 n1 x1 a2 o2 i2 n2 x2;refine rm ⟨_,ho,hc,_,hd⟩ ⟨_,ho',hc',_,hd'⟩ (by omega) (BF x1 x2 i1.toList i2.toList (by simp [hl]) (by simp [hl']) hs fun j c1 c2 c3 c4=>?_);have k1:=hi j _ _ (Ge9 c1) (show i1[j]?=some i1.toList[j] by simp)
    have k2:=hi' j _ _ (Ge9 c2) (show i2[j]?=some i2.toList[j] by simp);have d1:=iJ ha (Ge9 c1)
    have d2:=iJ hb (Ge9 c2);exact⟨bY.eq n d1 d2 (by show A.units+1+n<cLine;omega) k1 k2,fun sh=>bY.lt n d1 d2 sh (by show A.units+1+n<cLine;omega) k1 k2⟩
   | _=>cases hs
end
section
variable {prog:RY} {w:SU} {A:RH} {E:QN->QP->Prop} {s:QP} {Q:Bool->QP->Prop} {n:Nat}
theorem kat_tail:∀(a b:List T) (vs ws:List QN) (i:Nat),0<i->vs.length=a.length->ws.length=b.length->shl (vg n) a b=true ->
  (∀j (h1:j<a.length) (h2:j<b.length) (h3:j<vs.length) (h4:j<ws.length),S5 A s vs[j] ws[j] (decide (a[j]=b[j]))/\(vg n a[j] b[j]=true->rh A s vs[j] ws[j] (ltN n a[j] b[j]))) ->
  ∀fin,fin=decide (vs.length<ws.length)->Q (lL (ltN n) a b) s->KatLex prog w A true fin Q (vs.zip ws) i s
 | [],[],[],[],i,_,_,_,_,_,fin,hf,h=>by rw [lL] at h;simp at hf;subst hf;exact kat_nil h
 | [],b::q,[],w'::ws,i,_,_,_,_,_,fin,hf,h=>by rw [lL] at h;simp at hf;subst hf;exact kat_nil h
 | a::r,[],v::vs,[],i,_,_,_,_,_,fin,hf,h=>by rw [lL] at h;simp at hf;subst hf;exact kat_nil h
 | a::r,b::q,v::vs,w'::ws,i,hi,l1,l2,hs,hx,fin,hf,h=>by
  rw [shl,QS] at hs;obtain⟨h0,h0'⟩:=hx 0 (by simp) (by simp) (by simp) (by simp);have h0:S5 A s v w' (decide (a=b)):=h0
  have h0':vg n a b=true->rh A s v w' (ltN n a b):=h0';rw [lL] at h;rw [Tv];refine kat_cons (h0 prog w _ _ ?_);by_cases e:a=b
  ·rw [if_pos e] at h
   rw [decide_eq_true e];exact kat_yes (kat_tail r q vs ws (i+1) (by omega) (by simpa using l1) (by simpa using l2) hs.2 (fun j a1 a2 a3 a4=>hx (j+1) (by simpa using a1) (by simpa using a2) (by simpa using a3) (by simpa using a4)) fin (by simpa using hf) h)
  ·rw [if_neg e] at h
   rw [decide_eq_false e];refine kat_no ?_;have ei:(true && i == 0)=false:=by
    simp only [Bool.true_and,beq_eq_false_iff_ne];omega
   rw [ei];exact kat_one _ _ (h0' hs.1 prog w _ _ h)
 | [],[],_::_,_,_,_,l,_,_,_,_,_,_=>by simp at l
 | [],[],[],_::_,_,_,_,l,_,_,_,_,_=>by simp at l
 | [],_::_,_::_,_,_,_,l,_,_,_,_,_,_=>by simp at l
 | [],_::_,[],[],_,_,_,l,_,_,_,_,_=>by simp at l
 | _::_,_,[],_,_,_,l,_,_,_,_,_,_=>by simp at l
 | _::_,[],_::_,_::_,_,_,_,l,_,_,_,_,_=>by simp at l
 | _::_,_::_,_::_,[],_,_,_,l,_,_,_,_,_=>by simp at l
theorem Gx {t u:T} {vx vy:QN} (hA:A.units+8<cLine) (hk:kd 8 t=true) (hk':kd 8 u=true) (hh:(qB t=true/\qB u=true)\/(Ak t=true/\Ak u=true)) (hs:vg 8 t u=true) (k1:bY s.heap t vx) (k2:bY s.heap u vy) (hC:Q (ltN 8 t u) s) :
  QZ (model prog w) A (keyLt' (tuples' true) vx vy) Q E s:=by
 have go:∀{a b:T} {r q:List T},t=.tup (a::r)->u=.tup (b::q)->((∃x y,a=.str x/\b=.str y)\/∃x y,a=.int x/\b=.int y)->QZ (model prog w) A (keyLt' (tuples' true) vx vy) Q E s:=fun {a b r q} et eu hab=>by
  subst et eu;cases k1 with
  | tup ho hc hd hl hi =>
   cases k2 with
   | tup ho' hc' hd' hl' hi' =>
    rename_i a1 o1 i1 n1 a2 o2 i2 n2;have Mv:∀j (h:j<(a::r).length) (h':j<i1.toList.length),bY s.heap (a::r)[j] i1.toList[j]:=fun j h h'=>hi j _ _ (Ge9 h) (by simp)
    have at2:∀j (h:j<(b::q).length) (h':j<i2.toList.length),bY s.heap (b::q)[j] i2.toList[j]:=fun j h h'=>hi' j _ _ (Ge9 h) (by simp)
    refine kat_lt ho hd ho' hd' ?_;obtain⟨l1⟩:=i1;obtain⟨l2⟩:=i2;simp only [So] at hl hl';cases l1 with
    | nil=>simp at hl
    | cons v vs =>
     cases l2 with
     | nil=>simp at hl'
     | cons w' ws =>
      have e0:=Mv 0 (by simp) (by simp);have f0:=at2 0 (by simp) (by simp)
      have e0:bY s.heap a v:=e0;have f0:bY s.heap b w':=f0
      have hs:shl (vg 7) (a::r) (b::q)=true:=hs;rw [shl,QS] at hs;have Mw:(a::r).all (kd 7)=true:=hk
      have Mx:(b::q).all (kd 7)=true:=hk';have hC:Q (lL (ltN 7) (a::r) (b::q)) s:=hC
      rw [lL] at hC;have q0:=bY.eq 7 (s:=s) (A:=A) (iJ Mw (i:=0) rfl) (iJ Mx (i:=0) rfl) (by omega) e0 f0
      show KatLex prog w A true _ Q ((v::vs).zip (w'::ws)) 0 s;rw [Tv];refine kat_cons (q0 prog w _ _ ?_);by_cases e:a=b
      ·rw [if_pos e] at hC
       rw [decide_eq_true e];refine kat_yes (kat_tail (n:=7) r q vs ws 1 (by omega) (by simpa using hl.symm) (by simpa using hl'.symm) hs.2 (fun j c1 c2 c3 c4=>?_) _ (by simp) hC);have z1:bY s.heap r[j] vs[j]:=Mv (j+1) (by simpa using c1) (by simpa using c3)
       have z2:bY s.heap q[j] ws[j]:=at2 (j+1) (by simpa using c2) (by simpa using c4);have d1:kd 7 r[j]=true:=iJ Mw (i:=j+1) (by simp [c1])
       have d2:kd 7 q[j]=true:=iJ Mx (i:=j+1) (by simp [c2]);exact⟨bY.eq 7 d1 d2 (by omega) z1 z2,fun sh=>bY.lt 7 d1 d2 sh (by omega) z1 z2⟩
      ·rw [if_neg e] at hC
       rw [decide_eq_false e];refine kat_no ?_;show QZ (model prog w) A (oneLt' true v w') Q _ s
       rcases hab with⟨x,y,rfl,rfl⟩|⟨x,y,rfl,rfl⟩
       ·cases e0;cases f0
        exact oneLt_str hC
       ·cases e0;cases f0
        exact oneLt_int hC
 rcases hh with⟨h1,h2⟩|⟨h1,h2⟩
 ·unfold qB at h1 h2
  split at h1
  ·split at h2
   ·exact go rfl rfl (.inl ⟨_,_,rfl,rfl⟩)
   ·cases h2
  ·cases h1
 ·unfold Ak at h1 h2
  split at h1
  ·split at h2
   ·exact go rfl rfl (.inr ⟨_,_,rfl,rfl⟩)
   ·cases h2
  ·cases h1
end
section
variable {X:Cx}
theorem mJ {h:Heap}:∀{vs fs:List QN},vs.length=fs.length->(∀i (h1:i<vs.length) (h2:i<fs.length),∃a o xs n,vs[i]=.ref a/\h.get? a=some o/\o.cls=.type "tuple"/\o.data=.seq xs n/\xs[0]?=some fs[i])->KatTups h vs fs
 | [],[],_,_=>.nil
 | [],_::_,l,_=>by simp at l
 | _::_,[],l,_=>by simp at l
 | v::vs,f::fs,l,hh=>by
  obtain⟨a,o,xs,n,e,e1,e2,e3,e4⟩:=hh 0 (by simp) (by simp);have e:v=.ref a:=e
  have e4:xs[0]?=some f:=e4;subst e;exact .cons e1 e2 e3 e4 (mJ (by simpa using l) fun i h1 h2=>hh (i+1) (by simpa using h1) (by simpa using h2))
theorem tc {g:G} {ys:List T} {us:List QN} (r:bM g ys us):∀(p:List Nat),(∀i∈p,i<ys.length)->bM g (p.map fun i=>ys.getD i (.int 0)) (p.map fun i=>us.getD i RG)
 | [],_=>.nil
 | i::p,h=>by
  refine .cons ?_ (tc r p fun j hj=>h j (QV _ hj));have hi:=h i QR
  obtain⟨u,e,q⟩:=qJ r (Ge9 hi);simp only [Gd9,e,Ge9 hi,Tp];exact q
theorem Al {pins:aJ} {φ:Fr} {g:G} {L L2:aa} {s:QP} {fz:Bool} {xs:List T} {us:List QN} {w:T} {t' n:Nat} {h':Heap} {a:Rm} (I:Inv X pins φ g L s) (r:bM g xs us) (h:fk fz xs L=.ok w L2) (k:∀b u,s.heap.get? b=some u->h'.get? b=some u) (ha:s.heap.objs.size<=a) (new:h'.get? a=some { cls:=.type "list",data:=.seq us.toArray n }) :
  EP X pins φ g w L2 (.ref a) { s with heap:=h',toks:=t' }:=by
 have f:=I.hok.fresh ha;unfold fk a8 at h;split at h
 ·rename_i hz
  unfold mk at h;split at h
  ·cases h
   exact⟨_,Le.lay f,I.laid k ha new,r.lst (n:=n) (o:=default) (Le.lay f) (.inl rfl) (.inl aj) hz⟩
  ·cases h
   refine⟨_,Le.new f,I.new k ha new (r.lst (n:=n) (o:=default) (Le.new f) (.inr rfl) (.inl aj) hz),?_⟩;have:=I.rel.len
   exact .ref (p:=(a,a)) (by show at_ ((_,_)::g.α) _=_;rw [<- this];exact cT)
 ·cases h
end
end M
namespace M
open PySem PySem.Spec PyProof.Rows
open Classical in
def td:List T->List T
 | []=>[]
 | x::r=>if x∈r then td r else x::td r
noncomputable def eI (ys:List T):Prop:=ys.length<64/\ys.all (kd 8)=true/\(ys.all qB=true\/ys.all Ak=true)/\(ys.all fun a=>ys.all fun b=>vg 8 a b)=true
noncomputable instance (ys:List T):Decidable (eI ys):=by unfold eI;exact inferInstance
def kz (fz:Bool):Fn:=fun xs L=>match xs with
 | [x]=>match vw L x with
  | .lst ys=>a8 (eI ys/\ys.all (kd 6)=true/\ys.all qB=true) (fk fz (oC (td ys)) L)
  | _=>.bad
 | _=>.bad
def jb (fz:Bool):Fn:=fun xs L=>match xs with
 | [x]=>match vw L x with
  | .ah ks=>a8 (eI (yT ks)) (fk fz (oC (yT ks)) L)
  | _=>.bad
 | _=>.bad
def jr:Fn:=fun xs L=>match xs with
 | [x,y]=>match vw L x,vw L y with
  | .lst a,.lst b=>a8 (a.length<=b.length) (sC (zp a b) L)
  | .lst a,.tup b=>a8 (a.length<=b.length) (sC (zp a b) L)
  | _,_=>.bad
 | _=>.bad
def Ow:T->Fn:=fun x ts L=>match x,ts with
 | .ref n,[t]=>match at_ L n with
  | some (.lst xs)=>a8 (dat 8 t=true/\xs.all (dat 8)=true) (match xs.findIdx? fun y=>eqT y t with
   | some j=>.ok .bj (put L n (.lst (xs.eraseIdx j)))
   | none=>.bad)
  | _=>.bad
 | _,_=>.bad
def uD:T->Fn:=fun x ts L=>match x,ts with
 | .ref n,[.int i,t]=>match at_ L n with
  | some (.lst xs)=>a8 (xs.length<lim/\0<=i/\i<=1000) (.ok .bj (put L n (.lst (xs.take i.toNat++t::xs.drop i.toNat))))
  | _=>.bad
 | _,_=>.bad
def nL:T->Fn:=fun x ts L=>match x,ts with
 | .ref n,[t]=>match at_ L n,vw L t with
  | some (.ah _),.ah []=>.ok .bj L
  | some (.ah []),.ah [(.tup k,z)]=>.ok .bj (put L n (.ah [(.tup k,z)]))
  | _,_=>.bad
 | _,_=>.bad
def pe (fz:Bool):Fn:=fun ts L=>match ts with
 | [.int n]=>a8 (qG n/\n<=1000) (fk fz (upTo 0 n.toNat) L)
 | _=>.bad
def ph (fz:Bool):Fn:=fun ts L=>match ts with
 | [.tup [],.tup []]=>fk fz [] L
 | _=>.bad
def wV (L:aa) (t:T) (L':aa):R T:=match t with
 | .ref n=>match at_ L' n with
  | some (.lst xs)=>a8 (L.length<=n) (fin L (.lst xs) (put L' n (.ref n)) |>.bind fun t L1=>.ok (.ref L.length) (t::L1))
  | _=>.bad
 | _=>.bad
def uE (np nn:Nat) (b:SS):Fn:=fun xs L=>if xs.length=np then match b (xs.map some++Q7 (nn - np) none) L with
  | .rt t L'=>wV L t L'
  | _=>.bad
 else .bad
end M
namespace M
open PySem
structure Ct where
 fn:List (Str × Fn)
 co:List (Str × T)
 me:List (Str × List (Str × Fn))
 fl:List Str
 us:List Str
 lv:List (Nat × Nat)
structure Sg where
 N:List Str
 sc:Scope
structure Bd where
 E:Expr->SE
 T:Expr->ST
 S:Stmt->SS
noncomputable def Ct.fz (Γ:Ct) (p:Pos):Bool:=!(Γ.lv.any fun q=>q.1 == p.line && q.2 == p.col)
noncomputable def FA (N:List Str) (x:Str):Option Nat:=N.findIdx? (· == x)
noncomputable def Sg.at (S:Sg) (x:Str):Option Nat:=match S.sc.names.lookup x with
 | some .local=>FA S.N x
 | some .cell=>FA S.N x
 | some .free=>FA S.N x
 | _=>none
noncomputable def Sg.own (S:Sg) (x:Str):Option Nat:=match S.sc.names.lookup x with
 | some .local=>FA S.N x
 | some .cell=>FA S.N x
 | _=>none
noncomputable def Sg.gl (S:Sg) (x:Str):Bool:=match S.sc.names.lookup x with
 | some .globalImplicit=>true
 | _=>false
def vi (n:Nat) (k:Int):SE:=b2 (v n) (c (.int k)) ix
def blt (x:Str) (fz:Bool):Option Fn:=[(("len":Str),di),("list",dm fz),("tuple",jW),("all",lP),("any",m4),("min",zk),("str",lQ),("int",ue),("isinstance",Cu),("dict",bK),("sorted",jq fz)].lookup x
noncomputable def S (s:String):Cs:=(Sa s).cps.toList
noncomputable def aD:Ty->Option (T->Fn):=fun y=>match y with|.l=>some zm|_=>none
noncomputable def cA:Ty->Option (T->Fn):=fun y=>match y with|.l=>some vC|_=>none
noncomputable def jM:Ty->Option (T->Fn):=fun y=>match y with|.l=>some sy|.t=>some sA|_=>none
noncomputable def nM:Ty->Option (T->Fn):=fun y=>match y with|.t=>some zo|_=>none
noncomputable def fV:Ty->Option (T->Fn):=fun y=>match y with|.s=>some oM|_=>none
noncomputable def jN (fz:Bool):Ty->Option (T->Fn):=fun y=>match y with|.s=>some (jX fz)|_=>none
noncomputable def jO:Ty->Option (T->Fn):=fun y=>match y with|.s=>some jY|_=>none
def bH:Ty->Option (T->Fn):=fun y=>match y with|.d=>some lR|_=>none
def fv:Ty->Option (T->Fn):=fun y=>match y with|.d=>some Cv|_=>none
def kC:Ty->Option (T->Fn):=fun y=>match y with|.l=>some uD|_=>none
def bu:Ty->Option (T->Fn):=fun y=>match y with|.d=>some nL|_=>none
def My (x:Str) (fz:Bool):Option (Ty->Option (T->Fn)):=[(("append":Str),aD),("extend",cA),("count",jM),("index",nM),("join",fV),("split",jN fz),("strip",jO),("get",bH),("setdefault",fv),("insert",kC),("update",bu)].lookup x
noncomputable def jz:List SE->SE
 | []=>no
 | a::r=>match r with
  | []=>a
  | _::_=>zd a (jz r)
noncomputable def vh:List SE->SE
 | []=>no
 | a::r=>match r with
  | []=>a
  | _::_=>IG a (vh r)
noncomputable def fW:List ST->ST
 | []=>no
 | a::r=>match r with
  | []=>a
  | _::_=>zc a (fW r)
noncomputable def vm:List ST->ST
 | []=>no
 | a::r=>match r with
  | []=>a
  | _::_=>IF a (vm r)
noncomputable def eName (Γ:Ct) (S:Sg) (x:Str):SE:=match S.at x with
 | some i=>v i
 | none=>match S.gl x with
  | true=>match Γ.co.lookup x with
   | some t=>c t
   | none=>match Γ.us.contains x,([(("bool":Str),"bool"),("int","int"),("str","str"),("list","list"),("tuple","tuple")]:List (Str × String)).lookup x with
    | true,some n=>c (.cl (.type n))
    | _,_=>no
  | false=>no
noncomputable def DN:Const->SE
 | .int i=>c (.int i)
 | .bool b=>c (.bl b)
 | .none=>c .bj
 | .str x=>match decide (x.cps.toList.length<=lim) with
  | true=>c (.str x.cps.toList)
  | false=>no
 | _=>no
def wW (B:Bd) (a:Expr) (ops:List CmpOp) (es:List Expr):SE:=match ops with
 | []=>no
 | op::r=>match r with
  | []=>match es with
   | [b]=>match behindInMarks op b with
    | false=>b2 (B.E a) (B.E b) (cmp op)
    | true=>no
   | _=>no
  | mv::r'=>match r' with
   | []=>match es with
    | [b,d]=>match lastMarks [op,mv] [b,d] with
     | false=>uc op mv (B.E a) (B.E b) (B.E d)
     | true=>no
    | _=>no
   | _::_=>no
def IT (B:Bd) (a b:Expr):SE:=match uo b with
 | true=>b2 (B.E a) (B.E b) ix
 | false=>no
def Gy (Γ:Ct) (B:Bd) (a b:Expr) (p:Pos):SE:=match b with
 | .Slice lo hi st _=>match st with
  | none=>sl (Γ.fz p) (B.E a) (lo.map B.E) (hi.map B.E)
  | some _=>IT B a b
 | _=>IT B a b
noncomputable def DP (a:Option Nat) (b:Option (List Nat)):Option (List Nat):=match a with
 | some i=>match b with
  | some is=>some (i::is)
  | none=>none
 | none=>none
noncomputable def wX (S:Sg):List Expr->Option (List Nat)
 | []=>some []
 | .Name x _::r=>DP (S.own x) (wX S r)
 | _=>none
noncomputable def JT (S:Sg):Expr->Option Tg
 | .Name x _=>(S.own x).map .one
 | .Tuple ts _ _=>(wX S ts).map .many
 | _=>none
noncomputable def isTup:Expr->Bool
 | .Tuple ..=>true
 | _=>false
def BG (Γ:Ct) (B:Bd) (S:Sg) (tg e:Expr) (x:Str) (es:List Expr):SI:=match S.gl x && Γ.us.contains x && es.all aF with
 | true=>match x == ("range":Str) with
  | true=>match es with
   | [a]=>ud (c (.int 0)) (B.E a)
   | [a,b]=>ud (B.E a) (B.E b)
   | _=>src (B.E e)
  | false=>match es with
   | [a]=>match x == ("enumerate":Str) with
    | true=>match isTup tg with
     | true=>zf (B.E a)
     | false=>src (B.E e)
    | false=>src (B.E e)
   | _=>src (B.E e)
 | false=>src (B.E e)
def stI (Γ:Ct) (B:Bd) (S:Sg) (tg e:Expr):SI:=match e with
 | .Call (.Name x _) es [] _=>BG Γ B S tg e x es
 | .Call (.Attribute o m ap) [] [] q=>match okBase o && (ap.endLine == q.line) && m == ("items":Str) with
  | true=>zi (B.E o)
  | false=>src (B.E e)
 | e=>src (B.E e)
noncomputable def inN (sc:Scope):List Str:=(sc.names.filter fun y=>match y.2 with
 | .local=>true
 | .free=>true
 | _=>false).map (·.1)
noncomputable def wY (x:Str):Bool:=!(x == ("__debug__":Str)) && !(x == ("__classdict__":Str))
noncomputable def rp (S:Sg) (sc:Scope):Bool:=(match sc.kind with
  | .function=>true
  | _=>false) && (sc.names.all fun y=>match y.2 with
  | .cell=>false
  | .local=>(match sc.names.lookup y.1 with
   | some .local=>true
   | _=>false)
  | .free=>(match S.sc.names.lookup y.1 with
   | some .cell=>true
   | some .free=>true
   | _=>false)
  | _=>true) && decide (inN sc).Nodup && (inN sc).all wY
noncomputable def aA (S:Sg) (sc:Scope):List (Option Nat):=(inN sc).map fun y=>match sc.names.lookup y with
 | some .free=>S.at y
 | _=>none
noncomputable def tests (B:Bd):List Expr->ST
 | []=>yes
 | [k]=>B.T k
 | _=>no
def mK (Γ:Ct) (B:Sg->Bd) (S:Sg) (elt tg iter:Expr) (ifs:List Expr) (sc:Scope) (p:Pos):SE :=
 match JT ⟨inN sc,sc⟩ tg with
 | some t=>match rp S sc && hV iter && t.slots.all (fun i=>match (aA S sc)[i]? with
   | some none=>true
   | _=>false) with
  | true=>comp (Γ.fz p) (stI Γ (B S) S tg iter) (aA S sc) t (tests (B ⟨inN sc,sc⟩) ifs) ((B ⟨inN sc,sc⟩).E elt)
  | false=>no
 | none=>no
def BH (Γ:Ct) (S:Sg) (fz:Bool) (x y:Str) (es:List Expr):Option (Fn × List Expr):=match S.gl y && Γ.us.contains y && es.all aF && (Γ.fn.lookup y).isNone with
 | true=>match x == ("sorted":Str) && y == ("set":Str) with
  | true=>match es with
   | [e]=>some (kz fz,[e])
   | _=>none
  | false=>match x == ("dict":Str) && y == ("zip":Str) with
   | true=>match es with
    | [a,b]=>some (jr,[a,b])
    | _=>none
   | false=>match x == ("list":Str) && y == ("zip":Str) with
    | true=>match es with
     | [a,b]=>some (ph fz,[a,b])
     | _=>none
    | false=>match x == ("list":Str) && y == ("range":Str) with
     | true=>match es with
      | [a]=>some (pe fz,[a])
      | _=>none
     | false=>none
 | false=>none
def BI (fz:Bool) (x:Str) (o:Expr) (m:Str) (ap q:Pos):Option (Fn × List Expr):=match okBase o && (ap.endLine == q.line) && x == ("sorted":Str) && m == ("items":Str) && aF o with
 | true=>some (jb fz,[o])
 | false=>none
def nest (Γ:Ct) (S:Sg) (fz:Bool) (x:Str) (l:List Expr):Option (Fn × List Expr):=match l with
 | [e]=>match e with
  | .Call f es ks q=>match ks with
   | []=>match f with
    | .Name y _=>BH Γ S fz x y es
    | .Attribute o m ap=>match es with
     | []=>BI fz x o m ap q
     | _=>none
    | _=>none
   | _=>none
  | _=>none
 | _=>none
def wZ (Γ:Ct) (B:Bd) (S:Sg) (x:Str) (es:List Expr) (p:Pos):SE:=match S.gl x && es.all aF with
 | true=>match Γ.fn.lookup x with
  | some F=>af F (es.map B.E)
  | none=>match Γ.us.contains x && !es.isEmpty,blt x (Γ.fz p) with
   | true,some F=>match nest Γ S (Γ.fz p) x es with
    | some q=>af q.1 (q.2.map B.E)
    | none=>af F (es.map B.E)
   | _,_=>no
 | false=>no
def w4 (Γ:Ct) (B:Bd) (o:Expr) (m:Str) (ap:Pos) (es:List Expr) (p:Pos):SE:=match okBase o && es.all aF && decide (es.length<30) && ap.endLine == p.line with
 | true=>match Γ.me.lookup m with
  | some mf=>mZ m (fun y=>mf.lookup y) (B.E o) (es.map B.E)
  | none=>match My m (Γ.fz p) with
   | some f=>ar f (B.E o) (es.map B.E)
   | none=>no
 | false=>no
def BJ (Γ:Ct) (B:Sg->Bd) (S:Sg):Expr->SE
 | .Name x _=>eName Γ S x
 | .Constant k _ _=>DN k
 | .BinOp a op b p=>b2 ((B S).E a) ((B S).E b) (aH (Γ.fz p) op)
 | .UnaryOp .Not a _=>oJ ((B S).E a)
 | .UnaryOp .USub a _=>b1 ((B S).E a) neg
 | .BoolOp .And es _=>jz (es.map (B S).E)
 | .BoolOp .Or es _=>vh (es.map (B S).E)
 | .Compare a ops es _=>wW (B S) a ops es
 | .IfExp k a b _=>FO ((B S).T k) ((B S).E a) ((B S).E b)
 | .List es p=>match es.all aF with
  | true=>lst (Γ.fz p) (es.map (B S).E)
  | false=>no
 | .Tuple es _ _=>match es.all aF && decide (es.length<=1000) with
  | true=>tup (es.map (B S).E)
  | false=>no
 | .Dict [] [] p=>ik (Γ.fz p)
 | .Subscript a b p=>Gy Γ (B S) a b p
 | .Attribute o f _=>match okBase o && Γ.fl.contains f with
  | true=>b1 ((B S).E o) (fld f)
  | false=>no
 | .ListComp elt [⟨tg,iter,ifs,0⟩] sc p=>mK Γ B S elt tg iter ifs sc p
 | .Call (.Name x _) es [] p=>wZ Γ (B S) S x es p
 | .Call (.Attribute o m ap) es [] p=>w4 Γ (B S) o m ap es p
 | _=>no
def rq (B:Bd) (own:Expr->SE):Expr->ST
 | .UnaryOp .Not a _=>dK (B.T a)
 | .BoolOp .And es _=>fW (es.map B.T)
 | .BoolOp .Or es _=>vm (es.map B.T)
 | .Compare a ops es p=>tv (own (.Compare a ops es p))
 | .Name x p=>tv (own (.Name x p))
 | .Call f es ks p=>tv (own (.Call f es ks p))
 | .Subscript a b p=>tv (own (.Subscript a b p))
 | .Attribute o f p=>tv (own (.Attribute o f p))
 | .Constant k n p=>tv (own (.Constant k n p))
 | _=>no
noncomputable def BK:Expr->Bool
 | .Call ..=>true
 | .Name ..=>true
 | .Subscript ..=>true
 | .Attribute ..=>true
 | _=>false
noncomputable def JU (gs:List Comprehension):Option (Expr × Expr × List Expr):=match gs with
 | [⟨tg,iter,ifs,0⟩]=>some (tg,iter,ifs)
 | _=>none
def Am (B:Sg->Bd) (S:Sg) (i:Nat) (e:Expr):SS:=match jl e with
 | true=>asg (.one i) ((B S).E e)
 | false=>fh
def uF (Γ:Ct) (B:Sg->Bd) (S:Sg) (tg e:Expr):SS:=match tg with
 | .Name x p=>match S.own x with
  | some i=>match e with
   | .ListComp elt gs sc p=>match JU gs with
    | some (tg,iter,ifs)=>asg (.one i) (mK Γ B S elt tg iter ifs sc p)
    | none=>Am B S i e
   | _=>Am B S i e
  | none=>fh
 | .Tuple ts _ _=>match wX S ts,BK e with
  | some is,true=>asg (.many is) ((B S).E e)
  | _,_=>fh
 | .Attribute o f _=>match Γ.fl.contains f with
  | true=>dM ((B S).E o) f ((B S).E e)
  | false=>fh
 | .Subscript o i _=>match jl e with
  | true=>oL ((B S).E o) ((B S).E i) ((B S).E e)
  | false=>fh
 | _=>fh
def FC (Γ:Ct) (B:Sg->Bd) (S:Sg):Stmt->SS
 | .Pass _=>pass
 | .Break _=>brk
 | .Continue _=>cnt
 | .Expr e _=>match jl e with
  | true=>df ((B S).E e)
  | false=>fh
 | .Return none _=>ret (c .bj)
 | .Return (some e) _=>ret ((B S).E e)
 | .If k a b _=>iff ((B S).T k) (ab (a.map (B S).S)) (ab (b.map (B S).S))
 | .Assign [tg] e _=>uF Γ B S tg e
 | .AugAssign (.Name x _) op e _=>match S.own x with
  | some i=>aug op i ((B S).E e)
  | none=>fh
 | .AugAssign (.Subscript o i _) op e _=>match uo i with
  | true=>vB op ((B S).E o) ((B S).E i) ((B S).E e)
  | false=>fh
 | .For tg e b [] _=>match JT S tg,hV e with
  | some t,true=>aT (stI Γ (B S) S tg e) t (ab (b.map (B S).S))
  | _,_=>fh
 | .While k b [] _=>lO ((B S).T k) (ab (b.map (B S).S)) lim
 | _=>fh
def step (Γ:Ct) (B:Sg->Bd) (S:Sg):Bd:=⟨BJ Γ B S,rq (B S) (BJ Γ B S),FC Γ B S⟩
def cX (Γ:Ct):Nat->Sg->Bd
 | 0,_=>⟨fun _=>no,fun _=>no,fun _=>fh⟩
 | n+1,S=>step Γ (cX Γ n) S
def code (Γ:Ct) (S:Sg) (b:List Stmt):SS:=ab (b.map (cX Γ 40 S).S)
end M
namespace M
open PySem PySem.W PySem.Calls PyProof.Rows L2
section
variable {X:Cx} {pins:aJ} {φ:Fr} {g:G} {L L':aa} {s:QP}
theorem kE {A:RH} {E:QN->QP->Prop} {fz:Bool} {ts:List T} {its:List QN} {w:T} (hu:A.units+8<cLine) (I:Inv X pins φ g L s) (rr:bM g ts its) (ok:eI ts) (h:fk fz (oC ts) L=.ok w L') :
  QZ (model X.prog X.w) A (Builtin.«list.sort» ⟨[.ref s.heap.objs.size],[]⟩) (fun fin s'=>fin=.done (.ret .none)/\EP X pins φ g w L' (.ref s.heap.objs.size) s') E { s with heap:=s.heap.push (seqObj "list" its.toArray 0) }:=by
 obtain⟨IQ,hk,hh,hs⟩:=ok;have nD:∀b o,s.heap.get? b=some o->b≠s.heap.objs.size:=fun b o q=>Rc (Q1 q)
 have w5:∀b o,s.heap.get? b=some o->(s.heap.push (seqObj "list" its.toArray 0)).get? b=some o:=fun b o q=>QK _ q
 have hlen:its.length=ts.length:=(Q0 rr).symm;have hk':=QO.mp hk
 have Ox:∀i,kd 8 (ts.getD i (.int 0))=true:=fun i=>by
  cases e:ts[i]? with
  | none=>simp only [Gd9,e,Ws];rfl
  | some x=>simp only [Gd9,e,Tp];exact hk' x (RM e)
 have JV:∀{h':Heap},(∀b o,s.heap.get? b=some o->h'.get? b=some o)->∀i (hi:i<ts.length) (hi':i<its.length),bY h' ts[i] its[i]:=fun {h'} kp i hi hi' =>
  (I.kept (t':=s.toks) kp).Fy 8 (hk' _ (Q6 hi)) (qI rr i _ _ (Ge9 hi) (Ge9 hi'))
 refine lZ (κ:=tuples' true) (lt:=fun i j=>ltN 8 (ts.getD i (.int 0)) (ts.getD j (.int 0))) (DM Ox) (QM _ rfl) (by omega) (fun h2 h' kp Q' hQ=>?_) (fun h' kp i j C hi hj hC=>?_) fun p h' c hp hr kp e'=>?_
 ·have hf:∀i:_root_.Fin its.length,∃f:QN,(∃a o xs n,its[i.1]=.ref a/\h'.get? a=some o/\o.cls=.type "tuple"/\o.data=.seq xs n/\xs[0]?=some f)/\((ts.all qB=true->typeOf f=pure (.type "str"))/\(ts.all Ak=true->typeOf f=pure (.type "int"))):=fun⟨i,hi⟩=>by
   have hit:i<ts.length:=by omega
   have k:=JV (fun b o q=>kp b o (nD b o q) (w5 b o q)) i hit hi;have tup:∃b r,ts[i]=.tup (b::r):=by
    rcases hh with hh|hh
    ·have z:=QO.mp hh _ (Q6 hit)
     unfold qB at z;split at z
     ·rename_i e;exact⟨_,_,e⟩
     ·cases z
    ·have z:=QO.mp hh _ (Q6 hit)
     unfold Ak at z;split at z
     ·rename_i e;exact⟨_,_,e⟩
     ·cases z
   obtain⟨b,r,et⟩:=tup;have hS:ts.all qB=true->∃x,b=.str x:=fun z=>by
    have z:=QO.mp z _ (Q6 hit);rw [et] at z;cases b <;> first|exact⟨_,rfl⟩|cases z
   have hI:ts.all Ak=true->∃x,b=.int x:=fun z=>by
    have z:=QO.mp z _ (Q6 hit);rw [et] at z;cases b <;> first|exact⟨_,rfl⟩|cases z
   rw [et] at k;generalize hv:its[i]=vv at k;cases k with
   | tup ho hc hd hl BC =>
    rename_i a1 o1 i1 n1;have uG:0<i1.size:=by simp at hl;omega
    have k0:=BC 0 b i1[0] rfl (QU uG);refine⟨i1[0],⟨a1,o1,i1,n1,rfl,ho,hc,hd,QU uG⟩,fun z=>?_,fun z=>?_⟩
    ·obtain⟨x,rfl⟩:=hS z
     generalize i1[0]=y at k0;cases k0;rfl
    ·obtain⟨x,rfl⟩:=hI z
     generalize i1[0]=y at k0;cases k0;rfl
  obtain⟨f,hf⟩:=XI.mp hf;have kt:KatTups h' its (List.ofFn f):=mJ (by simp) fun i h1 h2=>by
   rw [List.getElem_ofFn];exact(hf ⟨i,h1⟩).1
  rcases hh with hh|hh
  ·refine kat_kind (s:={ s with heap:=h' }) (T:=.type "str") (by simpa using kt) (by simp at h2 ⊢;omega) (fun v hv=>?_) (by decide) ?_
   ·obtain⟨i,rfl⟩:=(List.mem_ofFn (f:=f) (a:=v)).mp hv
    exact Looks.of_pure ((hf i).2.1 hh)
   ·exact hQ
  ·refine kat_kind (s:={ s with heap:=h' }) (T:=.type "int") (by simpa using kt) (by simp at h2 ⊢;omega) (fun v hv=>?_) (by decide) ?_
   ·obtain⟨i,rfl⟩:=(List.mem_ofFn (f:=f) (a:=v)).mp hv
    exact Looks.of_pure ((hf i).2.2 hh)
   ·exact hQ
 ·have i1:i<ts.length:=by omega
  have j1:j<ts.length:=by omega
  have t1:ts.getD i (.int 0)=ts[i]:=by simp [i1]
  have t2:ts.getD j (.int 0)=ts[j]:=by simp [j1]
  have g1:its.getD i RG=its[i]:=by rw [Gd9,Ge9 hi];rfl
  have g2:its.getD j RG=its[j]:=by rw [Gd9,Ge9 hj];rfl
  rw [g1,g2];have hC:C (ltN 8 (ts.getD i (.int 0)) (ts.getD j (.int 0))) _:=hC
  rw [t1,t2] at hC;refine Gx hu (hk' _ (Q6 i1)) (hk' _ (Q6 j1)) ?_ (QO.mp (QO.mp hs _ (Q6 i1)) _ (Q6 j1)) (JV (fun b o q=>kp b o (nD b o q) (w5 b o q)) i i1 hi) (JV (fun b o q=>kp b o (nD b o q) (w5 b o q)) j j1 hj) hC;rcases hh with hh|hh
  ·exact .inl ⟨QO.mp hh _ (Q6 i1),QO.mp hh _ (Q6 j1)⟩
  ·exact .inr ⟨QO.mp hh _ (Q6 i1),QO.mp hh _ (Q6 j1)⟩
 ·have hpl:p.toList.Perm (RV its.length):=hp.2
  have e1:(RV its.length).map (fun i=>ts.getD i (.int 0))=ts:=by
   rw [hlen];apply Sx (by simp);intro i a1 a2;simp [a2]
  have JW:oC ts=p.toList.map (fun i=>ts.getD i (.int 0)):=by
   refine ro hk ?_ ?_
   ·have z:=hpl.map (fun i=>ts.getD i (.int 0))
    rw [e1] at z;exact z
   ·unfold l6
    rw [Up,VX];intro i j hi hj qZ;have hi':i<p.size:=by simpa using hi
    have hj':j<p.size:=by simpa using hj
    have z:=hr i j qZ (by rw [<- hp.1];exact hj');have g1:p.getD i 0=p.toList[i]:=by simp [SR,hi']
    have g2:p.getD j 0=p.toList[j]:=by simp [SR,hj']
    rw [g1,g2] at z;exact z
  rw [JW] at h;exact⟨rfl,Al (s:=s) (t':=s.toks) (n:=c) I (tc rr p.toList fun i hi=>by have:=R2.mp (hpl.mem_iff.mp hi);omega) h (fun b o q=>kp b o (nD b o q) (w5 b o q)) (Q3 _) e'⟩
theorem Inv.Gz {h':Heap} {tk:Nat} {as:List Rm} (I:Inv X pins φ g L s) (kp:∀b o,s.heap.get? b=some o->h'.get? b=some o) (ha:∀a∈as,s.heap.objs.size<=a) :
  ∃g1,Le g g1/\Inv X pins φ g1 L { s with heap:=h',toks:=tk }/\∀a∈as,∀o,h'.get? a=some o->g1.H a=some (true,o):=by
 classical
 let g1:G:={ g with H:=fun b=>if b∈as then (h'.get? b).map fun o=>(true,o) else g.H b }
 have old:∀b,b<s.heap.objs.size->g1.H b=g.H b:=fun b hb=>if_neg fun z=>Sk _ (Rp hb (ha b z))
 have lt:∀b x,g.H b=some x->b<s.heap.objs.size:=fun b x q=>Q1 (I.hok b x.1 x.2 q)
 have l:Le g g1:=⟨fun b o q=>(old b (lt b _ q)).trans q,fun _ _ q=>q,rfl,rfl,rfl⟩;refine⟨g1,l,I.un l ⟨fun b o q _ _=>kp b o q,fun b o q n _=>(old b (Q1 q)).trans n,l.f⟩ (fun b c o q=>?_) (I.rel.le l rfl fun b o q=>old b (lt b _ q)),fun a hm o q=>?_⟩
 ·by_cases hb:b∈as
  ·have q:(if b∈as then (h'.get? b).map fun o=>(true,o) else g.H b)=some (c,o):=q
   rw [if_pos hb] at q;obtain⟨z,z1,z2⟩:=QY.mp q;cases z2;exact z1
  ·have q:(if b∈as then (h'.get? b).map fun o=>(true,o) else g.H b)=some (c,o):=q
   rw [if_neg hb] at q;exact kp b o (I.hok b c o q)
 ·show(if a∈as then (h'.get? a).map fun o=>(true,o) else g.H a)=_
  rw [if_pos hm,q];rfl
theorem BL {a:Rm} {o:Obj} {es:Array DictEntry} {ep:Nat} {ks:List (T × T)} (D:bG X g s ks a o es ep) (h:(ks.map (·.1)).all qE=true):∃kvs,s.heap.DictAt (iK X.prog X.w) a kvs ep/\kvs.length=ks.length/\∀(i:Nat) k x,kvs[i]?=some (k,x)->∃p,ks[i]?=some p/\p.1=k/\(∃u,RT g none k u)/\RT g none p.2 x:=by
 have sc:∀(i:Nat) p e,ks[i]?=some p->es[i]?=some e->zY p.1 e.key=true:=fun i p e e1 e2 =>
  nC (QO.mp h _ (Ry (RM e1))) (D.h1 i p e e1 e2)
 have go:∀(l:List DictEntry) (ks:List (T × T)),ks.length=l.length->(∀(i:Nat) p e,ks[i]?=some p->l[i]?=some e->zY p.1 e.key=true)->∃kvs,Pairs (iK X.prog X.w) l kvs/\kvs.length=ks.length/\kvs.map (·.1)=ks.map (·.1)/\kvs.map (·.2)=l.map (·.val):=fun l=>by
  induction l with
  | nil=>intro ks hl _;cases ks with
   | nil=>exact⟨[],.nil,rfl,rfl,rfl⟩
   | cons _ _=>cases hl
  | cons e l ih=>intro ks hl h;cases ks with
   | nil=>cases hl
   | cons p ks =>
    obtain⟨kvs,k1,k2,k3,k4⟩:=ih ks (by simpa using hl) fun i p e e1 e2=>h (i+1) p e (by simpa using e1) (by simpa using e2)
    exact⟨(p.1,e.val)::kvs,.cons (h 0 p e rfl rfl) rfl k1,by simp [k2],by simp [k3],by simp [k4]⟩
 obtain⟨kvs,k1,k2,k3,k4⟩:=go es.toList ks (by simpa using D.hl) fun i p e e1 e2=>sc i p e e1 (by simpa using e2)
 refine⟨kvs,⟨o,es,D.ho,D.hx,D.hd,fun e he=>?_,k1,by rw [k3];exact D.hn⟩,k2,fun i k x q=>?_⟩
 ·obtain⟨i,hi,rfl⟩:=TF he
  have e1:=Ge9 (l:=ks) (i:=i) (by rw [D.hl];exact hi);exact⟨_,sc i _ _ e1 (QU hi),D.hh i _ _ e1 (QU hi)⟩
 ·have e1:(ks.map (·.1))[i]?=some k:=by rw [<- k3,Rd,q];rfl
  have e2:(es.toList.map (·.val))[i]?=some x:=by rw [<- k4,Rd,q];rfl
  rw [Rd] at e1 e2;obtain⟨p,p1,p2⟩:=QY.mp e1;obtain⟨e,q1,q2⟩:=QY.mp e2;have q1:es[i]?=some e:=by simpa using q1
  subst p2 q2;exact⟨p,p1,rfl,⟨_,D.h1 i p e p1 q1⟩,D.h2 i p e p1 q1⟩
theorem pj {ks:List (T × T)} (h:(yT ks).all qB=true\/(yT ks).all Ak=true):(ks.map (·.1)).all qE=true:=by
 rw [QO];intro k hk;obtain⟨p,hp,rfl⟩:=Rj.mp hk;have m:T.tup [p.1,p.2]∈yT ks:=Rj.mpr ⟨p,hp,rfl⟩
 rcases h with h|h
 ·have z:=QO.mp h _ m
  generalize p.1=q at z ⊢;cases q <;> first|rfl|cases z
 ·have z:=QO.mp h _ m
  generalize p.1=q at z ⊢;cases q <;> first|rfl|cases z
theorem rz {fz:Bool} {ks:List (T × T)} {w:T} {a r:Rm} {o:Obj} {es:Array DictEntry} {ep:Nat} (hu:X.A.units+20<cLine) (I:Inv X pins φ g L s) (D:bG X g s ks a o es ep) (hr:s.heap.get? r=some { cls:=.type "dict_items",data:=.fields #[.ref a] }) (ok:eI (yT ks)) (h:fk fz (oC (yT ks)) L=.ok w L') :
  QZ (model X.prog X.w) X.A (call (.builtin "sorted") [.ref r]) (EP X pins φ g w L') F0 s:=by
 obtain⟨kvs,d1,d2,d3⟩:=BL D (pj ok.2.2.1);refine UD kind_sorted plain_sorted entry_sorted (args_sorted1 _) ?_;unfold Builtin.«sorted»;refine QJ (m:=checkCount "sorted" 1 1 _) (QL ?_);refine QJ (PySem.W.kdx_collect (A:=X.A.in1) (knd:=iK X.prog X.w) (kvs:=kvs) (ep:=ep) (d:=a) I.ok.hd ⟨_,hr,rfl,rfl⟩ d1 (by rw [d2];exact D.hz) fun h' tk as kp Mz hG=>?_);obtain⟨g1,l1,I1,n1⟩:=I.Gz (tk:=tk) (as:=as) kp fun a ha=>UK (hG.above a ha)
 have rr:bM g1 (yT ks) (as.map Sz):=by
  refine cS (by simp [yT,Mz,d2]) fun i x v e1 e2=>?_
  unfold yT at e1;rw [Rd] at e1 e2;obtain⟨p,p1,rfl⟩:=QY.mp e1;obtain⟨b,b1,rfl⟩:=QY.mp e2;obtain⟨key,k,y,f1,f2,f3⟩:=hG.pairs i b b1;obtain⟨p',q1,q2,⟨u,q3⟩,q4⟩:=d3 i k y f1;rw [p1] at q1;cases q1;subst q2;have rk:RT g none p.1 key:=DD f2 q3
  refine .tup (.inl (n1 b (RM b1) _ f3)) ⟨rfl,rfl⟩ rfl (by rw [Sr];simp) rfl fun j z v e1 e2=>?_
  match j,e1,e2 with
  | 0,e1,e2=>cases e1;cases e2;exact rk.le l1
  | 1,e1,e2=>cases e1;cases e2;exact q4.le l1
  | j+2,e1,e2=>simp at e1
 refine QJ (wpAny_newList ?_ (by rw [Lm9,Mz,d2];exact D.hz));have iD:=fun E'=>kE (s:={ s with heap:=h',toks:=tk }) (E:=E') (A:=X.A.in1.in1) (by show X.A.units+1+1+8<cLine;omega) I1 rr ok h
 refine QJ (wpAny_holding (wpAny_call_entry slot_list_sort ⟨_,QM _ rfl,rfl⟩ entry_list_sort ?body (args_list_sort _)))
 case body =>
  refine wpAny_mono (iD _) (fun fin s' z=>?_) fun _ _ z=>z
  obtain⟨rfl,z⟩:=z;exact⟨_,rfl,QL ⟨_,rfl,z.le l1⟩⟩
theorem uH {fz:Bool} (hu:X.A.units+20<cLine):cR X (.builtin "sorted") (jq fz):=fun {pins φ g L s _ w L' _} I r h=>by
 unfold jq at h;split at h
 ·obtain⟨u,rfl,ru⟩:=bo r
  obtain⟨q,v⟩:=I.view ru;split at h
  ·rename_i ts ev
   rw [ev] at v;obtain⟨ok,h⟩:=ak h;obtain⟨a,its,n,rfl,e,rr,hz⟩:=I.lst v;obtain⟨vs⟩:=its;have hlen:=Q0 rr
   have IQ:=ok.1;refine UD kind_sorted plain_sorted entry_sorted (args_sorted1 _) ?_;unfold Builtin.«sorted»;refine QJ (m:=checkCount "sorted" 1 1 _) (QL ?_);refine QJ (collect_list (ae e) ?_ (by rw [Sr];simp at hlen ⊢;omega));refine QJ (wpAny_newList ?_ (by rw [Sr];simp at hlen ⊢;omega));have keep:∀b o,s.heap.get? b=some o->((s.heap.push (seqObj "list" #[] 0)).update s.heap.objs.size (RJ (·++vs.toArray))).get? b=some o:=fun b o q=>by
    have bL:b<s.heap.objs.size:=Q1 q;rw [Vz _ _ _ _ (Rc bL),Uo _ _ _ (Rc bL)];exact q
   have I1:=I.kept (t':=s.toks) keep;have iD:=fun E'=>kE (s:={ s with heap:=(s.heap.push (seqObj "list" #[] 0)).update s.heap.objs.size (RJ (·++vs.toArray)) }) (E:=E') (A:=X.A.in1.in1) (by show X.A.units+1+1+8<cLine;omega) I1 rr ok h
   refine QJ (wpAny_holding (wpAny_call_entry slot_list_sort ⟨_,QM _ rfl,rfl⟩ entry_list_sort ?body (args_list_sort _)))
   case body =>
    refine wpAny_mono (iD _) (fun fin s' z=>?_) fun _ _ z=>z
    obtain⟨rfl,z⟩:=z;exact⟨_,rfl,QL ⟨_,rfl,z⟩⟩
  ·cases h
 ·cases h
end
end M
namespace L2
open PySem
theorem noKeysZ:typeLookup (.type "zip") "keys"=pure none:=by rw [typeLookup_type,builtinLookup_eq_fast];kernel_rfl
theorem zip_getattr_none:typeLookup (.type "zip") "__getattr__"=pure none:=by rw [typeLookup_type,builtinLookup_eq_fast];kernel_rfl
theorem entry_zip_getattribute:entryFor table "zip.__getattribute__"=some Builtin.«object.__getattribute__» :=
 entryFor_alias (id':="object.__getattribute__") (by kernel_rfl) (by decide +kernel) (by decide +kernel) (by kernel_rfl)
theorem meets_miss_zip (a:Rm) (xs:Array QN) (sl:Array (Option QN)) (name:Str) (u:Tok) (hmiss:typeLookup (.type "zip") name=pure none) (hname:(["__module__","__name__","__qualname__","__doc__","__annotations__"]:List Str).contains name=false) (hsz:name.length+100<=Q9:=by size_fits) :
  Meets (Builtin.«object.__getattribute__» ⟨[.ref a,.str name u],[]⟩) (fun A R s=>s.heap.get? a=some { cls:=.type "zip",dict:=none,data:=.fields xs,slots:=sl }/\raisesAttr (.ref a) name A R s) :=
 Meets.of_wp fun prog w A R s hs=>by
  obtain⟨hp,g,d,tk,os⟩:=s;obtain⟨hx,hs⟩:=hs;have hT:(⟨hp,g,d,tk,os⟩:QP).TypeIs (.ref a) "zip":=⟨_,hx,rfl⟩
  unfold Builtin.«object.__getattribute__»
  repeat (any_goals (first|assumption|wp_step))
  simp only [hname,QW,if_false]
  repeat (any_goals (first|assumption|wp_step))
  exact wpAny_raiseAttrError hs.1 hs.2 (attrMsg_fits (by decide +kernel) hsz)
end L2
namespace L2
open PySem PySem.Spec PyProof.Rows
theorem uI {prog:RY} {w:SU} {A:RH} {E:QN->QP->Prop} {s:QP} {a:Rm} {xs:Array QN} {sl:Array (Option QN)} {Q:Option QN->QP->Prop}
  (hx:s.heap.get? a=some { cls:=.type "zip",dict:=none,data:=.fields xs,slots:=sl }) (hA:A.handled=none)
  (h:∀h' tk e,Xo s.heap h' e "AttributeError"->Q none { s with heap:=h',toks:=tk }) :
  QZ (model prog w) A (getAttr? (.ref a) "keys") Q E s:=by
 obtain⟨hp,g,d,tk,os⟩:=s;have hT:∀tk',(⟨hp,g,d,tk',os⟩:QP).TypeIs (.ref a) "zip":=fun _=>⟨_,hx,rfl⟩
 have f1:=sub_AttributeError;have f3:=TV.lookup
 have f4:=TV.bind (.ref a);have f5:=zip_getattr_none
 have hmiss:=noKeysZ;unfold getAttr? getAttrBy? getAttrBy
 repeat (any_goals (first|assumption|exact hT _|((with_reducible show QZ _ _ (call (UU "zip.__getattribute__") _ _) _ _ _);refine call_meets TV (hT _) entry_zip_getattribute (PySem.F.args_zip_getattribute_2 _ _) (meets_miss_zip a xs sl "keys" _ hmiss (by decide +kernel) (by decide)) ⟨hx,hA,fun h' tk' e hx'=>?_⟩)|wp_step))
 obtain⟨t',u',he⟩:=hx'.there;show QZ _ _ (getattributeRaised _ _ _ _ _ _ _) _ _ _
 unfold getattributeRaised
 repeat (any_goals (first|assumption|wp_step))
 exact h _ _ _ hx'.of
abbrev IsZipF (h:Heap) (z TI TO:Rm) (f0:QN) (f1:Bool):Prop :=
 h.get? z=some { cls:=.type "zip",dict:=none,data:=.fields #[f0,.bool f1,.bool false,.ref TI,.ref TO],slots:=#[] }
noncomputable def An (h:Heap) (b:Bool) (i l:Rm) (k:Nat):Prop:=match b with|true=>h.IsTupleIter i l k|false=>h.IsListIter i l k
noncomputable def Ao (h:Heap) (b:Bool) (l:Rm) (xs:Array QN):Prop:=match b with|true=>h.IsTuple l xs|false=>h.IsList l xs
theorem An.at {h h':Heap} {b:Bool} {i l:Rm} {k:Nat} (x:An h b i l k) (e:∀o,h.get? i=some o->h'.get? i=some o):An h' b i l k:=by
 cases b with
 | false=>obtain⟨o,ho,r⟩:=x;exact⟨o,e _ ho,r⟩
 | true=>obtain⟨o,ho,r⟩:=x;exact⟨o,e _ ho,r⟩
theorem Ao.at {h h':Heap} {b:Bool} {l:Rm} {xs:Array QN} (x:Ao h b l xs) (e:∀o,h.get? l=some o->h'.get? l=some o):Ao h' b l xs:=by
 cases b with
 | false=>obtain⟨o,ho,r⟩:=x;exact⟨o,e _ ho,r⟩
 | true=>obtain⟨o,ho,r⟩:=x;exact⟨o,e _ ho,r⟩
theorem An.there {h:Heap} {b:Bool} {i l:Rm} {k:Nat} (x:An h b i l k):∃o,h.get? i=some o:=by
 cases b with
 | false=>obtain⟨o,ho,r⟩:=x;exact⟨o,ho⟩
 | true=>obtain⟨o,ho,r⟩:=x;exact⟨o,ho⟩
section
variable {prog:RY} {w:SU} {A:RH} {E:QN->QP->Prop} {s:QP}
theorem nN {it t:Rm} {i:Nat} {items:Array QN} {x:QN} {Q:QN->QP->Prop} (hit:s.heap.IsTupleIter it t i)
  (ht:s.heap.IsTuple t items) (hx:items[i]?=some x)
  (hQ:∀h',h'.IsTupleIter it t (i+1)->Ss it s.heap h'->Q x { s with heap:=h' }) :
  QZ (model prog w) A (Rx (.ref it)) Q E s:=by
 obtain⟨o,ho,hc,hd⟩:=id hit;obtain⟨ol,lY,_,nl,GA⟩:=ht;unfold Rx;refine QJ (wpAny_callSpecial?_slot (name:=Sa "__next__") hit.typeIs SM
  (wpAny_call_entry SM hit.typeIs UZ ?_ (UQ _)))
 show QZ _ _ (field (.ref it) 0 >>= _) _ _ s;refine QJ (wpAny_field ho hd (x:=.ref t) rfl ?_);show QZ _ _ (if (Sz t == RG)=true then _ else _) _ _ s
 rw [if_neg (show ¬ ((Sz t == RG)=true) from RC)];show QZ _ _ (field (.ref it) 1 >>= _) _ _ s
 refine QJ (wpAny_field ho hd (x:=.int i 0) rfl ?_);show QZ _ _ (seqItems? (.ref t) >>= _) _ _ s
 refine QJ (wpAny_seqItems lY GA ?_);simp only [R7,hx];refine QJ (wpAny_setField ho hd (by simp) (QL ⟨x,rfl,QL (hQ _ ?_ (RW ..))⟩));exact⟨_,RA _ ho (Uc (SG hd _)),(Vc ..).trans hc,by
  rw [SG hd];simp [rawInt]⟩
theorem pq {b:Bool} {it t:Rm} {i:Nat} {items:Array QN} {x:QN} {Q:QN->QP->Prop} (hit:An s.heap b it t i)
  (ht:Ao s.heap b t items) (hx:items[i]?=some x)
  (hQ:∀h',An h' b it t (i+1)->Ss it s.heap h'->Q x { s with heap:=h' }) :
  QZ (model prog w) A (Rx (.ref it)) Q E s:=by
 cases b with
 | false=>exact wpAny_nextOf_list_item hit ht hx hQ
 | true=>exact nN hit ht hx hQ
structure ZD (z TI TO i1 i2 l1 l2 a:Rm):Prop where
 TIz:TI≠z
 TOz:TO≠z
 i1z:i1≠z
 i2z:i2≠z
 TITO:TI≠TO
 TIi1:TI≠i1
 TIi2:TI≠i2
 TOi1:TO≠i1
 TOi2:TO≠i2
 i12:i1≠i2
 l1z:l1≠z
 l1TO:l1≠TO
 l1i1:l1≠i1
 l1i2:l1≠i2
 l2z:l2≠z
 l2TO:l2≠TO
 l2i1:l2≠i1
 l2i2:l2≠i2
 za:z≠a
 Oy:TI≠a
 Oz:TO≠a
 OA:i1≠a
 OB:i2≠a
structure w6 (h:Heap) (b:Bool) (z TI TO i1 i2 l1 l2 a:Rm) (k:Nat):Prop where
 z:∃f0 f1,IsZipF h z TI TO f0 f1/\(f0=.none\/∃T o,f0=rawInt ((T:Nat):Int)/\h.get? T=some o/\T≠z/\T≠TO/\T≠i1/\T≠i2/\T≠a)
 ti:IsPair h TI (.ref i1) (.ref i2)
 to:∃x y,IsPair h TO x y
 j1:h.IsListIter i1 l1 k
 j2:An h b i2 l2 k
theorem w6.ext {h h':Heap} {b:Bool} {z TI TO i1 i2 l1 l2 a:Rm} {k:Nat} (D:ZD z TI TO i1 i2 l1 l2 a) (x:w6 h b z TI TO i1 i2 l1 l2 a k) (e:∀c o,c≠a->h.get? c=some o->h'.get? c=some o):w6 h' b z TI TO i1 i2 l1 l2 a k:=by
 obtain⟨⟨f0,f1,hz,hf⟩,OC,⟨u,v,OD⟩,h1,h2⟩:=x;refine⟨⟨f0,f1,e _ _ D.za hz,?_⟩,e _ _ D.Oy OC,⟨u,v,e _ _ D.Oz OD⟩,h1.at fun o q=>e _ o D.OA q,h2.at fun o q=>e _ o D.OB q⟩;rcases hf with hf|⟨T,o,e0,ho,n1,n2,n3,n4,n5⟩
 ·exact .inl hf
 ·exact .inr ⟨T,o,e0,e _ _ n5 ho,n1,n2,n3,n4,n5⟩
theorem pv {z TI TO T0:Rm} {f1:Bool} {o0:Obj} {C:Bool->QP->Prop} (hz:IsZipF s.heap z TI TO (rawInt ((T0:Nat):Int)) f1) (ho:s.heap.get? T0=some o0)
  (h:∀h₁,IsZipF h₁ z TI TO (rawInt ((T0:Nat):Int)) true->Ss z s.heap h₁->C false { s with heap:=h₁ }):QZ (model prog w) A (RE (.ref z)) C E s:=by
 unfold RE;refine QJ (wpAny_field hz rfl (x:=rawInt ((T0:Nat):Int)) rfl ?_);show QZ _ _ (loadIfAlive (((T0:Nat):Int).toNat) >>= _) _ _ _
 rw [R7];refine QJ (Q:=_) ?_;have al:∀{Q:Option Obj->QP->Prop},Q (some o0) s->QZ (model prog w) A (loadIfAlive T0) Q E s:=fun {Q} q=>by
  have q':Q (s.heap.get? T0) s:=ho ▸ q;exact fun _ _ _=>q'
 refine al ?_;rw [if_neg (by simp)];refine QJ (wpAny_field hz rfl (x:=.bool f1) rfl ?_);cases f1 with
 | true =>
  rw [if_neg (by decide)];exact QL (h s.heap hz ⟨rfl,fun _ _=>rfl⟩)
 | false =>
  rw [if_pos (by decide)];refine QJ (wpAny_setField_rec hz (by simp) fun h₁ te lM=>QL (h h₁ te lM))
theorem w7 {b:Bool} {z TI TO i1 i2 l1 l2 a:Rm} {k:Nat} {xs ys:Array QN} {x y:QN} {Q:QN->QP->Prop} (D:ZD z TI TO i1 i2 l1 l2 a) (ha:a<s.heap.objs.size)
  (Z:w6 s.heap b z TI TO i1 i2 l1 l2 a k) (kH:s.heap.IsList l1 xs) (km:Ao s.heap b l2 ys) (hx:xs[k]?=some x) (hy:ys[k]?=some y)
  (hQ:∀h' T,w6 h' b z TI TO i1 i2 l1 l2 a (k+1)->IsPair h' T x y->s.heap.objs.size<=T ->
   (∀c o,c≠z->c≠TO->c≠i1->c≠i2->s.heap.get? c=some o->h'.get? c=some o)->Q (.ref T) { s with heap:=h' }) :
  QZ (model prog w) A (Builtin.«zip.__next__» ⟨[.ref z],[]⟩) (fun fin s'=>∃v,fin=.done (.ret v)/\Q v s') E s:=by
 obtain⟨⟨f0,f1,hz,hf⟩,Ap,⟨u,v,JX⟩,h1,h2⟩:=Z;show QZ _ _ (field (.ref z) 2 >>= _) _ _ _
 refine QJ (wpAny_field hz rfl (x:=.bool false) rfl ?_);show QZ _ _ (field (.ref z) 3 >>= _) _ _ _
 refine QJ (wpAny_field hz rfl (x:=.ref TI) rfl ?_);refine QJ (wpAny_seqItems Ap rfl ?_);show QZ _ _ (RE (.ref z) >>= _) _ _ _
 rcases hf with rfl|⟨T0,o0,rfl,IU,n1,n2,n3,n4,n5⟩
 ·refine QJ ?_
  unfold RE;refine QJ (wpAny_field hz rfl (x:=.none) rfl (QL ?_));simp only [if_true];refine QJ (wpAny_rule ?_);refine QJ (wpAny_field hz rfl (x:=.ref TO) rfl ?_);refine QJ (wpAny_setField_rec hz (by simp) fun h₁ te lM=>?_)
  replace te:IsZipF h₁ z TI TO .ellipsis f1:=te
  refine QJ ?_;simp only [Wv,WW,TH,Vg];refine QJ (QJ (wpAny_onRaise ?_));show QZ _ _ (Rx (.ref i1) >>= _) _ _ _
  refine QJ (wpAny_nextOf_list_item (h1.extBut lM.extBut D.i1z) (kH.extBut lM.extBut D.l1z) hx fun h₂ JY qC=>QL ?_);have GB:IsPair h₂ TO u v:=qC.extBut _ _ D.TOi1 (lM.extBut _ _ D.TOz JX)
  refine QJ (wpAny_seqItems GB rfl ?_);refine QJ (wpAny_updateSeq_pair GB fun h₃ DQ rA=>?_)
  replace DQ:IsPair h₃ TO x v:=DQ
  refine QJ (wpAny_letGo (QL ?_));refine QJ (QJ (wpAny_onRaise ?_));show QZ _ _ (Rx (.ref i2) >>= _) _ _ _
  have BM:∀c o,c≠z->c≠i1->c≠TO->s.heap.get? c=some o->h₃.get? c=some o:=fun c o c1 c2 c3 e=>rA.extBut _ _ c3 (qC.extBut _ _ c2 (lM.extBut _ _ c1 e))
  refine QJ (pq (h2.at fun o e=>BM _ o D.i2z D.i12.symm D.TOi2.symm e) (km.at fun o e=>BM _ o D.l2z D.l2i1 D.l2TO e) hy fun h₄ OE GC=>QL ?_);have GD:IsPair h₄ TO x v:=GC.extBut _ _ D.TOi2 DQ
  refine QJ (wpAny_seqItems GD rfl ?_);refine QJ (wpAny_updateSeq_pair GD fun h₅ w8 GF=>?_)
  replace w8:IsPair h₅ TO x y:=w8
  refine QJ (wpAny_letGo (QL (QL ?_)));refine QJ (wpAny_seqItems w8 rfl ?_);refine QJ (wpAny_newTuple ?_);have hsz:h₅.objs.size=s.heap.objs.size:=by rw [GF.1,GC.1,rA.1,qC.1,lM.1]
  have MA:IsZipF h₅ z TI TO .ellipsis f1:=GF.extBut _ _ D.TOz.symm (GC.extBut _ _ D.i2z.symm (rA.extBut _ _ D.TOz.symm (qC.extBut _ _ D.i1z.symm te)));have MB:∀c o,c≠z->c≠TO->c≠i1->c≠i2->s.heap.get? c=some o->h₅.get? c=some o:=fun c o c1 c2 c3 c4 e =>
   GF.extBut _ _ c2 (GC.extBut _ _ c4 (BM _ _ c1 c3 c2 e))
  have MC:h₅.IsListIter i1 l1 (k+1):=((JY.extBut rA.extBut D.TOi1.symm).extBut GC.extBut D.i12).extBut GF.extBut D.TOi1.symm;have MD:An h₅ b i2 l2 (k+1):=OE.at fun o e=>GF.extBut _ _ D.TOi2.symm e
  have DR:z<h₅.objs.size:=Q1 MA;have GG:TO<h₅.objs.size:=Q1 w8
  have GH:i1<h₅.objs.size:=by obtain⟨_,e,_⟩:=MC;exact Q1 e
  have GI:i2<h₅.objs.size:=by obtain⟨_,e⟩:=MD.there;exact Q1 e
  show QZ _ _ (UE (.ref z) (.ref h₅.objs.size) >>= _) _ _ _;refine QJ ?_;unfold UE;have OG:IsZipF (h₅.push { cls:=.type "tuple",data:=.seq #[x,y] }) z TI TO .ellipsis f1:=QK _ MA
  refine QJ (wpAny_setField_rec OG (by simp) fun h₇ JZ ME=>?_)
  replace JZ:IsZipF h₇ z TI TO (rawInt h₅.objs.size) f1:=JZ
  refine wpAny_setField_rec JZ (by simp) fun h₈ Ka MF=>?_
  replace Ka:IsZipF h₈ z TI TO (rawInt h₅.objs.size) false:=Ka
  have up:∀c o,c≠z->h₅.get? c=some o->h₈.get? c=some o:=fun c o c1 e=>MF.extBut _ _ c1 (ME.extBut _ _ c1 (QK _ e))
  have MG:IsPair h₈ h₅.objs.size x y:=MF.extBut _ _ (RU DR) (ME.extBut _ _ (RU DR) (QM _ rfl));refine QL ⟨_,rfl,?_⟩;show Q (.ref h₅.objs.size) _
  refine hQ h₈ h₅.objs.size ⟨⟨_,_,Ka,.inr ⟨h₅.objs.size,_,rfl,MG,RU DR,RU GG,RU GH,RU GI,RU (by rw [hsz];exact ha)⟩⟩,up _ _ D.TIz (MB _ _ D.TIz D.TITO D.TIi1 D.TIi2 Ap),⟨x,y,up _ _ D.TOz w8⟩,MC.at fun o e=>up _ o D.i1z e,MD.at fun o e=>up _ o D.i2z e⟩ MG (UL hsz.symm) fun c o c1 c2 c3 c4 e=>up c o c1 (MB c o c1 c2 c3 c4 e)
 ·refine QJ (pv hz IU fun h₁ te lM=>?_)
  simp only [QW,if_false,List.forIn_toArray,TH,Vg];refine QJ ?_;refine QJ (QJ (wpAny_holding ?_));show QZ _ _ (Rx (.ref i1) >>= _) _ _ _
  refine QJ (wpAny_nextOf_list_item (h1.extBut lM.extBut D.i1z) (kH.extBut lM.extBut D.l1z) hx fun h₂ JY qC=>QL ?_);refine QL ?_;refine QJ (QJ (wpAny_holding ?_));show QZ _ _ (Rx (.ref i2) >>= _) _ _ _
  have FD:∀c o,c≠z->c≠i1->s.heap.get? c=some o->h₂.get? c=some o:=fun c o c1 c2 e=>qC.extBut _ _ c2 (lM.extBut _ _ c1 e)
  refine QJ (pq (h2.at fun o e=>FD _ o D.i2z D.i12.symm e) (km.at fun o e=>FD _ o D.l2z D.l2i1 e) hy fun h₃ OH rA=>QL ?_);refine QL (QL ?_);show QZ _ _ (newTuple [x,y] >>= _) _ _ _
  refine QJ (wpAny_newTuple (QL ⟨_,rfl,?_⟩));have hsz:h₃.objs.size=s.heap.objs.size:=by rw [rA.1,qC.1,lM.1]
  have BM:∀c o,c≠z->c≠i1->c≠i2->s.heap.get? c=some o->h₃.get? c=some o:=fun c o c1 c2 c3 e=>rA.extBut _ _ c3 (FD _ _ c1 c2 e)
  have OI:IsZipF h₃ z TI TO (rawInt ((T0:Nat):Int)) true:=rA.extBut _ _ D.i2z.symm (qC.extBut _ _ D.i1z.symm te);have OJ:h₃.IsListIter i1 l1 (k+1):=JY.extBut rA.extBut D.i12
  have DS:∀c o,h₃.get? c=some o->(h₃.push { cls:=.type "tuple",data:=.seq #[x,y] }).get? c=some o:=fun c o e=>QK _ e
  refine hQ (h₃.push { cls:=.type "tuple",data:=.seq #[x,y] }) h₃.objs.size ⟨⟨_,_,DS _ _ OI,.inr ⟨T0,o0,rfl,DS _ _ (BM _ _ n1 n3 n4 IU),n1,n2,n3,n4,n5⟩⟩,DS _ _ (BM _ _ D.TIz D.TIi1 D.TIi2 Ap),⟨u,v,DS _ _ (BM _ _ D.TOz D.TOi1 D.TOi2 JX)⟩,OJ.at fun o e=>DS _ o e,OH.at fun o e=>DS _ o e⟩ (QM _ rfl) (UL hsz.symm) fun c o c1 _ c3 c4 e=>DS _ _ (BM c o c1 c3 c4 e)
theorem Aq {b:Bool} {z TI TO i1 i2 l1 l2 a:Rm} {k:Nat} {xs:Array QN} {Q:Fin->QP->Prop} (hh:A.handled=none) (D:ZD z TI TO i1 i2 l1 l2 a)
  (Z:w6 s.heap b z TI TO i1 i2 l1 l2 a k) (kH:s.heap.IsList l1 xs) (hx:xs[k]?=none)
  (hE:∀h' e,(∀c o,c≠z->c≠TO->c≠i1->c≠i2->s.heap.get? c=some o->h'.get? c=some o)->(∃o,h'.get? e=some o/\o.cls=.type "StopIteration")->E (.ref e) { s with heap:=h' }) :
  QZ (model prog w) A (Builtin.«zip.__next__» ⟨[.ref z],[]⟩) Q E s:=by
 obtain⟨⟨f0,f1,hz,hf⟩,Ap,⟨u,v,JX⟩,h1,h2⟩:=Z;show QZ _ _ (field (.ref z) 2 >>= _) _ _ _
 refine QJ (wpAny_field hz rfl (x:=.bool false) rfl ?_);show QZ _ _ (field (.ref z) 3 >>= _) _ _ _
 refine QJ (wpAny_field hz rfl (x:=.ref TI) rfl ?_);refine QJ (wpAny_seqItems Ap rfl ?_);show QZ _ _ (RE (.ref z) >>= _) _ _ _
 rcases hf with rfl|⟨T0,o0,rfl,IU,n1,n2,n3,n4,n5⟩
 ·refine QJ ?_
  unfold RE;refine QJ (wpAny_field hz rfl (x:=.none) rfl (QL ?_));simp only [if_true];refine QJ (wpAny_rule ?_);refine QJ (wpAny_field hz rfl (x:=.ref TO) rfl ?_);refine QJ (wpAny_setField_rec hz (by simp) fun h₁ te lM=>?_)
  replace te:IsZipF h₁ z TI TO .ellipsis f1:=te
  refine QJ ?_;simp only [Wv,WW,TH,Vg];refine QJ (QJ (wpAny_onRaise ?_));show QZ _ _ (Rx (.ref i1) >>= _) _ _ _
  refine QJ (wpAny_nextOf_list_end hh (h1.extBut lM.extBut D.i1z) (kH.extBut lM.extBut D.l1z) hx fun h₂ e qC he=>?_);obtain⟨oe,DT,GJ⟩:=he;have GK:IsZipF h₂ z TI TO .ellipsis f1:=qC _ _ D.i1z.symm te
  have Kb:e≠z:=fun x=>by subst x;rw [GK] at DT;cases DT;simp at GJ
  refine wpAny_setField_rec GK (by simp) fun h₃ _ rA=>hE h₃ e (fun c o c1 _ c3 _ x=>rA.extBut _ _ c1 (qC _ _ c3 (lM.extBut _ _ c1 x))) ⟨oe,rA.extBut _ _ Kb DT,GJ⟩
 ·refine QJ (pv hz IU fun h₁ te lM=>?_)
  simp only [QW,if_false,List.forIn_toArray,TH,Vg];refine QJ ?_;refine QJ (QJ (wpAny_holding ?_));show QZ _ _ (Rx (.ref i1) >>= _) _ _ _
  refine QJ (wpAny_nextOf_list_end hh (h1.extBut lM.extBut D.i1z) (kH.extBut lM.extBut D.l1z) hx fun h₂ e qC he=>?_);exact hE h₂ e (fun c o c1 _ c3 _ x=>qC _ _ c3 (lM.extBut _ _ c1 x)) he
theorem l9 {b:Bool} {z TI TO i1 i2 l1 l2 a:Rm} {k:Nat} {xs ys:Array QN} {x y:QN} {Q:Option QN->QP->Prop} (D:ZD z TI TO i1 i2 l1 l2 a) (ha:a<s.heap.objs.size)
  (Z:w6 s.heap b z TI TO i1 i2 l1 l2 a k) (kH:s.heap.IsList l1 xs) (km:Ao s.heap b l2 ys) (hx:xs[k]?=some x) (hy:ys[k]?=some y)
  (hQ:∀h' T,w6 h' b z TI TO i1 i2 l1 l2 a (k+1)->IsPair h' T x y->s.heap.objs.size<=T ->
   (∀c o,c≠z->c≠TO->c≠i1->c≠i2->s.heap.get? c=some o->h'.get? c=some o)->Q (some (.ref T)) { s with heap:=h' }) :
  QZ (model prog w) A (pyNext (.ref z)) Q E s:=by
 obtain⟨f0,f1,hz,_⟩:=Z.z;have hT:s.TypeIs (.ref z) "zip":=⟨_,hz,rfl⟩
 unfold pyNext;exact QJ (wpAny_attempt (wpAny_callSpecial?_slot (name:=Sa "__next__") hT S3
  (wpAny_call_entry S3 hT U7 (w7 D ha Z kH km hx hy fun h' T a1 a2 a3 a4=>QL (hQ h' T a1 a2 a3 a4)) (U0 _))))
theorem nO {b:Bool} {z TI TO i1 i2 l1 l2 a:Rm} {k:Nat} {xs:Array QN} {Q:Option QN->QP->Prop} (hh:A.handled=none) (D:ZD z TI TO i1 i2 l1 l2 a)
  (Z:w6 s.heap b z TI TO i1 i2 l1 l2 a k) (kH:s.heap.IsList l1 xs) (hx:xs[k]?=none)
  (hQ:∀h',(∀c o,c≠z->c≠TO->c≠i1->c≠i2->s.heap.get? c=some o->h'.get? c=some o)->Q none { s with heap:=h' }):QZ (model prog w) A (pyNext (.ref z)) Q E s:=by
 obtain⟨f0,f1,hz,_⟩:=Z.z;have hT:s.TypeIs (.ref z) "zip":=⟨_,hz,rfl⟩
 unfold pyNext;refine QJ (wpAny_attempt (wpAny_callSpecial?_slot (name:=Sa "__next__") hT S3
  (wpAny_call_entry S3 hT U7 (Aq hh D Z kH hx fun h' e hk he=>?_) (U0 _))))
 obtain⟨o,ho,hc⟩:=he;refine QJ (wpAny_isInstance (T:="StopIteration") (b:=true) ⟨o,ho,hc⟩ isSubtype_stop ?_);exact QL (hQ _ hk)
end
abbrev IV (h:Heap) (l1 l2:Rm):Heap:=(zipH1 h l1).push { cls:=.type "tuple_iterator",data:=.fields #[.ref l2,.int 0 0] }
abbrev IW (h:Heap) (l1 l2:Rm):Heap:=(IV h l1 l2).push { cls:=.type "tuple",data:=.seq #[.ref h.objs.size,.ref (zipH1 h l1).objs.size] }
abbrev IX (h:Heap) (l1 l2:Rm):Heap:=(IW h l1 l2).push { cls:=.type "tuple",data:=.seq #[.none,.none] }
abbrev DU (h:Heap) (l1 l2:Rm):Heap:=(IX h l1 l2).push { cls:=.type "zip",data:=.fields #[.none,.bool false,.bool false,.ref (IV h l1 l2).objs.size,.ref (IW h l1 l2).objs.size] }
theorem rB (l1 l2:Rm) (xs ys:Array QN) :
  Meets (Builtin.«zip.__new__» ⟨[.type "zip",.ref l1,.ref l2],[]⟩) (fun _ R s=>s.heap.IsList l1 xs/\s.heap.IsTuple l2 ys /\
   R (.ok (.ret (.ref (IX s.heap l1 l2).objs.size))) { s with heap:=DU s.heap l1 l2 }) :=
 .of_wp fun prog w A R s h=>by
  obtain⟨hp,g,d,tk,os⟩:=s;obtain⟨kH,km,h⟩:=h;have DV:=sub_zip
  have DW:Heap.IsList (Xh ⟨hp,g,d,tk,os⟩) l1 xs:=kH;have BN:Xz (Xh ⟨hp.push { cls:=.type "list_iterator",data:=.fields #[.ref l1,.int 0 0] },g,d,tk,os⟩) l2 ys:=Xv km _
  wp_walk using wpAny_pyIter_list DW,wpAny_pyIter_tuple BN
  exact⟨_,rfl,h⟩
section
variable {prog:RY} {w:SU} {A:RH} {E:QN->QP->Prop} {s:QP}
theorem uJ {l1 l2:Rm} {xs ys:Array QN} {Q:QN->QP->Prop} (kH:s.heap.IsList l1 xs) (km:s.heap.IsTuple l2 ys)
  (h:∀h',IsZip h' (s.heap.objs.size+4) (s.heap.objs.size+2) (s.heap.objs.size+3) .none->IsPair h' (s.heap.objs.size+2) (.ref s.heap.objs.size) (.ref (s.heap.objs.size+1)) ->
   IsPair h' (s.heap.objs.size+3) .none .none->h'.IsListIter s.heap.objs.size l1 0->h'.IsTupleIter (s.heap.objs.size+1) l2 0->h'.objs.size=s.heap.objs.size+5 ->
   (∀c o,s.heap.get? c=some o->h'.get? c=some o)->Q (.ref (s.heap.objs.size+4)) { s with heap:=h' }) :
  QZ (model prog w) A (call (.type "zip") [.ref l1,.ref l2]) Q E s:=by
 refine callType_new Xq (by decide) (WG _ _) (WX _ _) (fun obj=>VE obj _ _) WY
  (rB l1 l2 xs ys) ⟨kH,km,?_⟩
 have z1:(zipH1 s.heap l1).objs.size=s.heap.objs.size+1:=R1 ..;have z2:(IV s.heap l1 l2).objs.size=s.heap.objs.size+2:=by rw [R1,z1]
 have z3:(IW s.heap l1 l2).objs.size=s.heap.objs.size+3:=by rw [R1,z2]
 have z4:(IX s.heap l1 l2).objs.size=s.heap.objs.size+4:=by rw [R1,z3]
 have z5:(DU s.heap l1 l2).objs.size=s.heap.objs.size+5:=by rw [R1,z4]
 have g5:(DU s.heap l1 l2).get? (IX s.heap l1 l2).objs.size=some _:=QM _ rfl;have g4:(DU s.heap l1 l2).get? (IW s.heap l1 l2).objs.size=some _:=QK _ (QM _ rfl)
 have g3:(DU s.heap l1 l2).get? (IV s.heap l1 l2).objs.size=some _:=QK _ (QK _ (QM _ rfl));have g2:(DU s.heap l1 l2).get? (zipH1 s.heap l1).objs.size=some _:=QK _ (QK _ (QK _ (QM _ rfl)))
 have g1:(DU s.heap l1 l2).get? s.heap.objs.size=some _:=QK _ (QK _ (QK _ (QK _ (QM _ rfl))));show _/\_
 rw [z2,z3,z4] at g5;rw [z1,z2] at g3;rw [z3] at g4;rw [z1] at g2;rw [z4];exact⟨⟨_,g5,rfl⟩,h _ g5 g3 g4 ⟨_,g1,rfl,rfl⟩ ⟨_,g2,rfl,rfl⟩ z5 fun c o x =>
  QK _ (QK _ (QK _ (QK _ (QK _ x))))⟩
theorem rC {b:Bool} {l1 l2:Rm} {xs ys:Array QN} {Q:QN->QP->Prop} (kH:s.heap.IsList l1 xs) (km:Ao s.heap b l2 ys)
  (h:∀h',IsZip h' (s.heap.objs.size+4) (s.heap.objs.size+2) (s.heap.objs.size+3) .none->(∀a,w6 h' b (s.heap.objs.size+4) (s.heap.objs.size+2) (s.heap.objs.size+3) s.heap.objs.size (s.heap.objs.size+1) l1 l2 a 0)->h'.objs.size=s.heap.objs.size+5 ->
   (∀c o,s.heap.get? c=some o->h'.get? c=some o)->Q (.ref (s.heap.objs.size+4)) { s with heap:=h' }) :
  QZ (model prog w) A (call (.type "zip") [.ref l1,.ref l2]) Q E s:=by
 cases b with
 | false=>exact call_zip_2 kH km fun h' a1 a2 a3 a4 a5 a6 a7=>h h' a1 (fun _=>⟨⟨_,_,a1,.inl rfl⟩,a2,⟨_,_,a3⟩,a4,a5⟩) a6 a7
 | true=>exact uJ kH km fun h' a1 a2 a3 a4 a5 a6 a7=>h h' a1 (fun _=>⟨⟨_,_,a1,.inl rfl⟩,a2,⟨_,_,a3⟩,a4,a5⟩) a6 a7
end
end L2
namespace M
open PySem PySem.Spec PyProof.Rows L2
section
variable {X:Cx} {pins:aJ} {φ:Fr} {g g0:G} {L L':aa} {s:QP} {xs ys:List T} {GL GN:List QN} {a z TI TO i1 i2 l1 l2:Rm} {Qv Qw:Obj} {A:RH} {R:Result->QP->Prop} {b:Bool}
theorem OK (N l h:Nat) (e:h=N+5) (hl:l<N):l<h:=by omega
theorem MH (N l h:Nat) (e:h=N+5) (hl:l<N):l≠h:=by omega
theorem MI (N c h:Nat) (e:h=N+5) (hc:c=N+4\/c=N+3\/c=N\/c=N+1):N<=c/\c≠h:=by omega
theorem w9 (N l1 l2:Nat) (h1:l1<N) (h2:l2<N):ZD (N+4) (N+2) (N+3) N (N+1) l1 l2 (N+5):=by
 constructor <;> (refine um ?_;omega)
theorem pz:∀(a b:List T),prsOf (zp a b)=some (a.zip b)
 | [],_=>rfl
 | _::_,[]=>rfl
 | x::a,y::b=>by
  show prsOf (.tup [x,y]::zp a b)=_;unfold prsOf;rw [pz a b];rfl
theorem pA {w:T} (hu:X.A.units+20<cLine) (I:Inv X pins φ g L s) (DW:s.heap.IsList l1 GL.toArray) (BN:Ao s.heap b l2 GN.toArray) (r1:bM g xs GL) (r2:bM g ys GN) (hle:xs.length<=ys.length) (h:sC (zp xs ys) L=.ok w L') :
  QZ (model X.prog X.w) X.A (call (.type "zip") [.ref l1,.ref l2]) (fun u s'=>QZ (model X.prog X.w) X.A (call (.type "dict") [u]) (EP X pins φ g w L') F0 s') F0 s:=by
 have fS:X.A.in1.in1.units+8<cLine:=by show X.A.units+1+1+8<cLine;omega
 unfold sC at h;rw [pz] at h;obtain⟨⟨hm,hlen⟩,h⟩:=ak h;cases h;have ha:l1<s.heap.objs.size:=by
  obtain⟨_,e,_⟩:=DW;exact Q1 e
 have hb:l2<s.heap.objs.size:=by
  cases b with
  | false=>obtain⟨_,e,_⟩:=BN;exact Q1 e
  | true=>obtain⟨_,e,_⟩:=BN;exact Q1 e
 refine rC DW BN fun h1 Ml hZ nP va=>?_
 have I1:Inv X pins φ g L { s with heap:=h1 }:=I.kept (t':=s.toks) va;have vS:g.H h1.objs.size=none:=I1.hok.fresh (Q3 _)
 have big:(h1.objs.size == sysModules)=false:=by
  have h1':sysModules<s.heap.objs.size:=S2 (by decide) (I.mod.glob.keeps I.bk).lt;simpa using RU (OK _ _ _ nP h1')
 have J0:=I1.new (c:=.ah []) (o:={ cls:=.type "dict",data:=.dict #[] }) (h':=h1.push { cls:=.type "dict",data:=.dict #[] }) (t':=s.toks) (fun b u e=>QK _ e) (Q3 _) (QM _ rfl)
  (.ah (.inr rfl) (.inl aj) ⟨rfl,rfl,rfl⟩ rfl (Rf _) rfl ⟨UA,rfl⟩ big (fun i x e e1 _=>by simp at e1) (fun i x e e1 _=>by simp at e1) fun i x e e1 _=>by simp at e1)
 have l0:=Le.new (o:={ cls:=.type "dict",data:=.dict #[] }) vS;have rd:RT (g.new h1.objs.size { cls:=.type "dict",data:=.dict #[] }) none (.ref L.length) (.ref h1.objs.size):=by
  have:=I.rel.len;exact .ref (p:=(h1.objs.size,h1.objs.size)) (by show at_ ((_,_)::g.α) _=_;rw [<- this];exact cT)
 refine callType_codes (Q₁:=fun obj s₁=>obj=.ref h1.objs.size/\s₁={ s with heap:=h1.push { cls:=.type "dict",data:=.dict #[] } }) WE (VD _) Wm (kt_code_dict_new _ ⟨rfl,rfl⟩) ?_;rintro obj s₁ ⟨rfl,rfl⟩;have q9:UY { s with heap:=h1.push { cls:=.type "dict",data:=.dict #[] } } (.ref h1.objs.size) "dict":=⟨_,QM _ rfl,rfl⟩
 refine⟨q9,V9 _ _,?_⟩;unfold Builtin.«dict.__init__»;refine QJ ?_;unfold Wa;refine QJ (wpAny_notOrdered_dict q9 ?_);show QZ _ _ (pure (h1.objs.size,[Sz (s.heap.objs.size+4)])) _ _ _
 refine QL ?_;show QZ _ _ (SH "dict.__init__" h1.objs.size (.ref (s.heap.objs.size+4)) [] .none) _ _ _
 unfold SH;have wN:=QK { cls:=.type "dict",data:=.dict #[] } Ml
 refine QJ (wpAny_typeOf (T:="zip") ⟨_,wN,rfl⟩ ?_);rw [if_pos (by decide)];refine QJ (uI wN I.ok.hd fun h3 MJ e hx=>?_);rw [if_pos (show(none:Option QN).isNone=true from rfl)];refine QJ (wpAny_rule ?_);have OL:=hx.keeps _ _ wN
 have J1:=J0.kept (t':=MJ) (h':=h3) fun b o e=>hx.keeps b o e
 refine QJ (wpAny_pyIter_zip (s:={ s with heap:=h3,toks:=MJ }) OL ?_);refine QL ⟨plainId_quiet plain_dul _,codeAny_builtin entry_dul ?_⟩;rw [RN plain_dul _];have w5:∀b o,s.heap.get? b=some o->h3.get? b=some o:=fun b o q=>hx.keeps _ _ (QK _ (va _ _ q))
 have D:ZD (s.heap.objs.size+4) (s.heap.objs.size+2) (s.heap.objs.size+3) s.heap.objs.size (s.heap.objs.size+1) l1 l2 h1.objs.size:=by
  rw [nP];exact w9 _ l1 l2 ha hb
 have kH:=Q0 r1;have km:=Q0 r2
 have Qx:(xs.zip ys).length=xs.length:=by rw [List.length_zip];omega
 have four:∀{c:Rm},c∉[s.heap.objs.size+4,s.heap.objs.size+3,s.heap.objs.size,s.heap.objs.size+1]->c≠s.heap.objs.size+4/\c≠s.heap.objs.size+3/\c≠s.heap.objs.size/\c≠s.heap.objs.size+1:=fun {c} h=>by simpa using h
 refine q8 (A:=X.A.in1) (a:=h1.objs.size) (L:=L) fS [s.heap.objs.size+4,s.heap.objs.size+3,s.heap.objs.size,s.heap.objs.size+1] (fun i h=>h.IsList l1 GL.toArray/\Ao h b l2 GN.toArray/\w6 h b (s.heap.objs.size+4) (s.heap.objs.size+2) (s.heap.objs.size+3) s.heap.objs.size (s.heap.objs.size+1) l1 l2 h1.objs.size i) hm hlen (fun c hc=>by
   simp only [Q5,UI,or_false] at hc;exact(MI _ _ _ nP hc).2)
  (fun i h h' ⟨q1,q2,q3⟩ e=>⟨q1.at fun o q=>(e l1 (MH _ _ _ nP ha)).trans q,q2.at fun o q=>(e l2 (MH _ _ _ nP hb)).trans q,q3.ext D fun c o hc q=>(e c hc).trans q⟩)
  (fun i s' g' p Q ep lg JJ J ⟨q1,q2,q3⟩ hQ=>?_) (fun s' Q ⟨q1,q2,q3⟩ hQ=>nO (s:=s') (A:=X.A.in1.in1) I.ok.hd D q3 q1 (by simp;omega) fun h2 lK=>hQ h2 fun c o hc e=>let ⟨a1,a2,a3,a4⟩:=four hc;lK c o a1 a2 a3 a4 e) (fun s' g' lg J Gr=>?_)
  (xs.zip ys).length 0 _ _ rfl (Rf _) (Le.refl _) J1 rd (fun c hc=>?_) ⟨DW.at fun o q=>w5 _ o q,BN.at fun o q=>w5 _ o q,(hZ h1.objs.size).ext D fun c o _ e=>hx.keeps _ _ (QK _ e)⟩
 ·have hi:=(Q2.mp ep).1
  have hx:i<xs.length:=by omega
  have hy:i<ys.length:=by omega
  have vc:i<GL.length:=by omega
  have BC:i<GN.length:=by omega
  have ez:(xs.zip ys)[i]?=some (xs[i],ys[i]):=by rw [Ge9 hi,List.getElem_zip]
  obtain rfl:=SF (ez.symm.trans ep);have rk:=(qI (r1.le l0) i _ _ (Ge9 hx) (Ge9 vc)).le lg
  have rv:=(qI (r2.le l0) i _ _ (Ge9 hy) (Ge9 BC)).le lg;refine l9 (s:=s') (x:=GL[i]) (y:=GN[i]) D JJ q3 q1 q2 (by simp [vc]) (by simp [BC]) fun h4 t OM hT yV DX=>?_
  exact hQ h4 t _ _ _ _ ⟨q1.at fun o q=>DX l1 o D.l1z D.l1TO D.l1i1 D.l1i2 q,q2.at fun o q=>DX l2 o D.l2z D.l2TO D.l2i1 D.l2i2 q,OM⟩ (fun c o hc e=>let ⟨a1,a2,a3,a4⟩:=four hc;DX c o a1 a2 a3 a4 e) hT rfl rfl rk rv
 ·exact⟨rfl,g',l0.trans lg,J,Gr⟩
 ·have Fz:s.heap.objs.size<=c/\c≠h1.objs.size:=by
   simp only [Q5,UI,or_false] at hc;exact MI _ _ _ nP hc
  refine I.qK Fz.1 ?_;show upd g.H _ _ c=none
  rw [au Fz.2];exact I.hok.fresh Fz.1
end
end M
namespace bN
open PySem
noncomputable def Ri (xs:Array Nat):Prop:=∀i j,i<j->j<xs.size->xs.getD i 0<xs.getD j 0
theorem getD_in (xs:Array Nat) {i:Nat} (h:i<xs.size) (a b:Nat):xs.getD i a=xs.getD i b:=by simp [SR,h]
theorem nQ (xs:Array Nat) (hr:Ri xs) (j:Nat):∀(fuel lo hi:Nat),lo<=hi->hi<=xs.size->hi - lo<=fuel->(∀i,i<lo->xs.getD i 0<j)->(∀i,hi<=i->i<xs.size->j<=xs.getD i 0) ->
  (Vd xs j fuel lo hi<=xs.size/\(∀i,i<Vd xs j fuel lo hi->xs.getD i 0<j)/\∀i,Vd xs j fuel lo hi<=i->i<xs.size->j<=xs.getD i 0)
 | 0,lo,hi,h1,h2,h3,h4,h5=>by
  obtain rfl:lo=hi:=by omega
  exact⟨h2,h4,h5⟩
 | fuel+1,lo,hi,h1,h2,h3,h4,h5=>by
  unfold Vd;by_cases hl:lo<hi
  ·rw [if_pos hl]
   have hm:(lo+hi) / 2<xs.size:=by omega
   have e:xs.getD ((lo+hi) / 2) j=xs.getD ((lo+hi) / 2) 0:=getD_in xs hm _ _;dsimp only;rw [e];by_cases hc:xs.getD ((lo+hi) / 2) 0<j
   ·rw [if_pos hc]
    refine nQ xs hr j fuel ((lo+hi) / 2+1) hi (by omega) h2 (by omega) (fun i hi'=>?_) h5;by_cases ei:i=(lo+hi) / 2
    ·rw [ei];exact hc
    ·exact S2 (hr i _ (by omega) hm) hc
   ·rw [if_neg hc]
    refine nQ xs hr j fuel lo ((lo+hi) / 2) (by omega) (by omega) (by omega) h4 fun i vc BC=>?_
    by_cases ei:i=(lo+hi) / 2
    ·rw [ei];omega
    ·have:=hr _ i (show(lo+hi) / 2<i by omega) BC
     omega
  ·rw [if_neg hl]
   obtain rfl:lo=hi:=by omega
   exact⟨h2,h4,h5⟩
theorem fw (xs:Array Nat) (hr:Ri xs) (j:Nat):RZ xs j<=xs.size/\(∀i,i<RZ xs j->xs.getD i 0<j)/\∀i,RZ xs j<=i->i<xs.size->j<=xs.getD i 0 :=
 nQ xs hr j xs.size 0 xs.size (Rf _) (Q3 _) (by omega) (fun i h=>absurd h (by omega)) fun i h1 h2=>absurd h1 (by omega)
structure Tb (t:Rz):Prop where
 ri:Ri t.place
 nd:t.dummies = #[]
theorem eV {t:Rz} (T:Tb t) {i:Nat} (hi:i<t.place.size):t.slot (t.place.getD i 0)=.live i:=by
 have b:=fw t.place T.ri (t.place.getD i 0);have e:RZ t.place (t.place.getD i 0)=i:=by
  rcases Wb (RZ t.place (t.place.getD i 0)) i with h|h|h
  ·have z:=b.2.2 _ (Q3 _) (by omega)
   have y:=T.ri _ i h hi;omega
  ·exact h
  ·have z:=b.2.1 i h
   omega
 unfold SetTable.slot;rw [e];have e2:t.place[i]?=some (t.place.getD i 0):=by simp [SR,hi]
 dsimp only;rw [e2];simp
theorem ia {t:Rz} (T:Tb t) (j:Nat):(∃i,i<t.place.size/\t.place.getD i 0=j/\t.slot j=.live i)\/((∀i,i<t.place.size->t.place.getD i 0≠j)/\t.slot j=.empty):=by
 by_cases h:∃i,i<t.place.size/\t.place.getD i 0=j
 ·obtain⟨i,h1,h2⟩:=h
  exact .inl ⟨i,h1,h2,by rw [<- h2];exact eV T h1⟩
 ·refine .inr ⟨fun i h1 h2=>h ⟨i,h1,h2⟩,?_⟩
  have hn:∀i,i<t.place.size->t.place.getD i 0≠j:=fun i h1 h2=>h ⟨i,h1,h2⟩
  unfold SetTable.slot;dsimp only;have e1:(t.place[RZ t.place j]? == some j)=false:=by
   cases e:t.place[RZ t.place j]? with
   | none=>rfl
   | some y =>
    obtain⟨h1,h2⟩:=Ut.mp e;have z:=hn _ h1
    have e3:t.place.getD (RZ t.place j) 0=y:=by simp [SR,h1,h2]
    rw [e3] at z;simpa using z
  rw [e1];have e2:WZ t.dummies j=false:=by rw [T.nd];simp [WZ]
  rw [e2];rfl
end bN
namespace bN
noncomputable def oE:Nat->Nat->Nat
 | 0,s=>s
 | r+1,s=>5 * oE r s+1
noncomputable def T5:Nat->Nat
 | 0=>0
 | r+1=>5 * T5 r+1
theorem kI:∀r s,oE r s=5 ^ r * s+T5 r
 | 0,s=>by simp [oE,T5]
 | r+1,s=>by
  rw [oE,kI r s,T5,Ue,Nat.mul_add,<- Nat.mul_assoc,XA 5 (5 ^ r),Ul]
theorem rD:∀r,4 * T5 r+1=5 ^ r
 | 0=>rfl
 | r+1=>by
  have:=rD r;rw [T5,Ue,<- this];omega
theorem nR:∀a b s,oE (a+b) s=oE a (oE b s)
 | 0,b,s=>by simp [oE]
 | a+1,b,s=>by
  rw [show a+1+b=(a+b)+1 by omega,oE,oE,nR a b s]
theorem DY (a b:Nat):T5 (a+b)=5 ^ a * T5 b+T5 a:=by
 have h:=nR a b 0;rw [kI,kI a,kI b] at h;simpa using h
theorem xc:∀k,∃o,T5 (2 ^ k)=2 ^ k * (2 * o+1)
 | 0=>⟨0,rfl⟩
 | k+1=>by
  obtain⟨o,h⟩:=xc k;have e:2 ^ (k+1)=2 ^ k+2 ^ k:=by rw [Ue];omega
  rw [e,DY,<- rD];refine⟨2 * T5 (2 ^ k) * o+T5 (2 ^ k)+o,?_⟩;generalize T5 (2 ^ k)=T at *
  generalize 2 ^ k=M at *
  have h3:(4 * T+1) * T+T=(2 * (2 * T+1)) * T:=by grind
  rw [h3];have h4:(2 * (2 * T+1)) * T=(2 * (2 * T+1)) * (M * (2 * o+1)):=by rw [<- h]
  rw [h4];grind
theorem cover:∀(k s j:Nat),j<2 ^ k->∃r,r<2 ^ k/\oE r s % 2 ^ k=j
 | 0,s,j,h=>⟨0,by simp,by simp at h;subst h;simp [Nat.mod_one]⟩
 | k+1,s,j,h=>by
  have e:2 ^ (k+1)=2 * 2 ^ k:=by rw [Ue];omega
  have hM:0<2 ^ k:=Nat.two_pow_pos k;obtain⟨r,hr,hj⟩:=cover k s (j % 2 ^ k) (Ve _ hM);obtain⟨o,ho⟩:=xc k;have hB:oE (2 ^ k+r) s=oE r s+2 ^ k * ((2 * o+1) * (4 * oE r s+1)):=by
   rw [nR,kI (2 ^ k),<- rD,ho];generalize oE r s=A;generalize 2 ^ k=M;grind
  rw [e] at h ⊢;obtain⟨A,hA⟩:∃A,oE r s=A:=⟨_,rfl⟩;rw [hA] at hB hj;generalize 2 ^ k=M at *
  have a1:=Nat.div_add_mod A M;have j1:=Nat.div_add_mod j M
  rw [hj] at a1;generalize j % M=c at *
  have hc:c<M:=by
   rw [<- hj];exact Ve _ hM
  have hp:j / M=0\/j / M=1:=by
   have:j / M<2:=Nat.div_lt_of_lt_mul (by rw [XA];exact h)
   revert this
   generalize j / M=p;intro this;omega
  have key:∀q x,x=2 * M * q+j->x % (2 * M)=j:=fun q x e=>by
   rw [e,Nat.mul_add_mod];exact Ww h
  obtain⟨q,hq⟩:∃q,A / M=2 * q\/A / M=2 * q+1:=⟨A / M / 2,by generalize A / M=z;omega⟩;generalize A / M=a at *
  generalize j / M=p at *
  obtain⟨u,hu⟩:∃u,(2 * o+1) * (4 * A+1)=2 * u+1:=⟨4 * A * o+o+2 * A,by grind⟩;rw [hu] at hB;rcases hq with rfl|rfl <;> rcases hp with rfl|rfl
  ·exact⟨r,by omega,key q _ (by grind)⟩
  ·exact⟨M+r,by omega,key (q+u) _ (by grind)⟩
  ·exact⟨M+r,by omega,key (q+u+1) _ (by grind)⟩
  ·exact⟨r,by omega,key q _ (by grind)⟩
end bN
namespace bN
open PySem
noncomputable def bB (t:Rz):Nat->Tc->Tc
 | 0,p=>p
 | n+1,p=>bB t n (t.advance p)
theorem fy (t:Rz):∀a b p,bB t (a+b) p=bB t b (bB t a p)
 | 0,b,p=>by simp [bB]
 | a+1,b,p=>by rw [show a+1+b=(a+b)+1 by omega,bB,bB,fy t a b]
noncomputable def start (mask i pb:Nat) (d:Option Nat):Tc:={ j:=i,more:=RI mask i - i,i:=i,perturb:=pb,dummy:=d }
theorem iM (t:Rz):∀(more j i pb:Nat) (d:Option Nat),bB t (more+1) { j:=j,more:=more,i:=i,perturb:=pb,dummy:=d }=start t.mask (Se t.mask i pb).1 (Se t.mask i pb).2 d
 | 0,j,i,pb,d=>by
  simp only [bB,TX];rfl
 | more+1,j,i,pb,d=>by
  rw [bB];have e:t.advance { j:=j,more:=more+1,i:=i,perturb:=pb,dummy:=d }={ j:=j+1,more:=more,i:=i,perturb:=pb,dummy:=d }:=by
   simp [TX]
  rw [e];exact iM t more (j+1) i pb d
noncomputable def lp (mask:Nat):Nat->Nat × Nat->Nat × Nat
 | 0,x=>x
 | q+1,x=>Se mask (lp mask q x).1 (lp mask q x).2
theorem starts (t:Rz) (d:Option Nat) (i pb:Nat):∀q,∃n,n<=10 * q/\bB t n (start t.mask i pb d)=start t.mask (lp t.mask q (i,pb)).1 (lp t.mask q (i,pb)).2 d
 | 0=>⟨0,Q3 _,rfl⟩
 | q+1=>by
  obtain⟨n,h1,h2⟩:=starts t d i pb q;have hr:RI t.mask (lp t.mask q (i,pb)).1 - (lp t.mask q (i,pb)).1<=9:=by
   unfold RI;split <;> omega
  refine⟨n+(RI t.mask (lp t.mask q (i,pb)).1 - (lp t.mask q (i,pb)).1+1),by omega,?_⟩;rw [fy,h2,start,iM];rfl
theorem BO (mask:Nat) (x:Nat × Nat):∀q,(lp mask q x).2=x.2 / 32 ^ q
 | 0=>by simp [lp]
 | q+1=>by
  rw [lp,Se,BO mask x q,Ue,Nat.div_div_eq_div_mul]
theorem Ar {mask:Nat} {x:Nat × Nat} (h:x.2<2 ^ 64) {q:Nat} (hq:13<=q):(lp mask q x).2=0:=by
 rw [BO];apply Nat.div_eq_of_lt
 calc x.2<2 ^ 64:=h
  _<=32 ^ 13:=by decide
  _<=32 ^ q:=W8 (by decide) hq
theorem rE {mask:Nat} {x:Nat × Nat} (h:x.2<2 ^ 64):∀r,(lp mask (13+r) x).1 % (mask+1)=oE r (lp mask 13 x).1 % (mask+1)
 | 0=>rfl
 | r+1=>by
  have e:lp mask (13+(r+1)) x=Se mask (lp mask (13+r) x).1 (lp mask (13+r) x).2:=rfl;rw [e,Se,Ar h (by omega)];show((lp mask (13+r) x).1 * 5+1+0 / 32) % (mask+1) % (mask+1)=_
  rw [Nat.mod_mod,oE];simp only [Nat.zero_div,VM];rw [Nat.add_mod,Nat.mul_mod,rE h r,<- Nat.mul_mod,<- Nat.add_mod,XA]
theorem DZ (t:Rz) {k:Nat} (hk:t.mask+1=2 ^ k) (h:Int) {j:Nat} (hj:j<=t.mask):∃n,n<=10 * (t.mask+14)/\(bB t n (t.probeStart h)).j=j:=by
 have e:t.probeStart h=start t.mask (RS h % (t.mask+1)) (RS h) none:=rfl;have hb:RS h<2 ^ 64:=by
  unfold RS;have h1:=S6 h (show(0:Int)<2 ^ 64 by decide)
  have h2:=S4 h (show(2 ^ 64:Int)≠0 by decide);omega
 let x:Nat × Nat:=(RS h % (t.mask+1),RS h)
 obtain⟨r,hr,hx⟩:=cover k (lp t.mask 13 x).1 j (by omega);rw [<- hk] at hx hr;have h1:=rE (mask:=t.mask) (x:=x) hb r
 have h2:(lp t.mask (13+r) x).1<t.mask+1:=by
  rw [show 13+r=(12+r)+1 by omega,lp,Se];exact Ve _ (VN _)
 rw [Ww h2,hx] at h1;obtain⟨n,h3,h4⟩:=starts t none x.1 x.2 (13+r);refine⟨n,by omega,?_⟩;rw [e];show(bB t n (start t.mask x.1 x.2 none)).j=j
 rw [h4];exact h1
theorem rF {t:Rz} (T:Tb t) (hf:t.place.size<=t.mask):∃j,j<=t.mask/\t.slot j=.empty:=by
 refine SW fun jm=>?_
 have all:∀j,j<=t.mask->∃i,i<t.place.size/\t.place.getD i 0=j:=fun j hj=>by
  rcases ia T j with⟨i,h1,h2,_⟩|⟨_,h2⟩
  ·exact⟨i,h1,h2⟩
  ·exact absurd ⟨j,hj,h2⟩ jm
 have up:∀j,j<=t.mask->∀i,i<t.place.size->t.place.getD i 0=j->j<=i:=by
  intro j;induction j with
  | zero=>intro _ i _ _;omega
  | succ j ih =>
   intro hj i hi e;obtain⟨i',hi',e'⟩:=all j (by omega);have:=ih (by omega) i' hi' e'
   rcases Wb i i' with q|q|q
   ·have:=T.ri i i' q hi';omega
   ·subst q;omega
   ·omega
 obtain⟨i,hi,e⟩:=all t.mask (Q3 _);have:=up _ (Q3 _) i hi e
 omega
theorem first (P:Nat->Prop) (n:Nat) (h:P n):∃m,m<=n/\P m/\∀i,i<m->¬ P i:=by
 induction n using Nat.strongRecOn with
 | ind n ih =>
  by_cases q:∃i,i<n/\P i
  ·obtain⟨i,h1,h2⟩:=q
   obtain⟨m,a,b,c⟩:=ih i h1 h2;exact⟨m,by omega,b,c⟩
  ·exact⟨n,Q3 _,h,fun i hi hp=>q ⟨i,hi,hp⟩⟩
theorem way {t:Rz} (T:Tb t) {k:Nat} (hk:t.mask+1=2 ^ k) (hf:t.place.size<=t.mask) (h:Int) (hit:Nat->Prop) :
  ∃n,n<=10 * (t.mask+14)/\(t.slot (bB t n (t.probeStart h)).j=.empty\/∃i,i<t.place.size/\t.slot (bB t n (t.probeStart h)).j=.live i/\hit i) /\
   ∀m,m<n->∃i,i<t.place.size/\t.slot (bB t m (t.probeStart h)).j=.live i/\¬ hit i:=by
 obtain⟨j,hj,he⟩:=rF T hf;obtain⟨n,hn,e⟩:=DZ t hk h hj;obtain⟨m,hm,hp,hb⟩:=first (fun n=>t.slot (bB t n (t.probeStart h)).j=.empty\/∃i,i<t.place.size/\t.slot (bB t n (t.probeStart h)).j=.live i/\hit i) n (.inl (by rw [e];exact he))
 refine⟨m,by omega,hp,fun i hi=>?_⟩;have jm:=hb i hi
 rcases ia T (bB t i (t.probeStart h)).j with⟨a,h1,h2,h3⟩|⟨_,h2⟩
 ·exact⟨a,h1,h3,fun z=>jm (.inr ⟨a,h1,h3,z⟩)⟩
 ·exact absurd (.inl h2) jm
theorem xd (t:Rz) (hashAt:Nat->Int) (h:Int):∀(n fuel:Nat) (p:Tc),(∀m,m<n->∃i,t.slot (bB t m p).j=.live i/\(hashAt i == h)=false)->n<=fuel ->
  TL t hashAt h fuel p=TL t hashAt h (fuel - n) (bB t n p)
 | 0,fuel,p,_,_=>rfl
 | n+1,0,p,_,hf=>absurd hf (by omega)
 | n+1,fuel+1,p,hm,hf=>by
  obtain⟨i,h1,h2⟩:=hm 0 (by omega);have h1:t.slot p.j=.live i:=h1
  rw [TL,h1];simp only [h2,QW,if_false];rw [xd t hashAt h n fuel (t.advance p) (fun m q=>hm (m+1) (by omega)) (by omega)];rw [show fuel+1 - (n+1)=fuel - n by omega];rfl
noncomputable def D0 (t:Rz) (h:Int) (j:Nat):Prop:=∃n,n<10 * (t.mask+15)/\(bB t n (t.probeStart h)).j=j/\∀m,m<n->t.slot (bB t m (t.probeStart h)).j≠.empty
structure oF (t:Rz) (hs:Array Int):Prop where
 tb:Tb t
 sz:t.place.size=hs.size
 le:∀i,i<t.place.size->t.place.getD i 0<=t.mask
 fill:hs.size<=t.mask
 pw:∃k,t.mask+1=2 ^ k
 rG:∀i,i<hs.size->D0 t (hs.getD i 0) (t.place.getD i 0)
theorem eW {t t':Rz} (h:t'.mask=t.mask):∀n p,bB t' n p=bB t n p
 | 0,p=>rfl
 | n+1,p=>by
  have e:t'.advance p=t.advance p:=by simp only [TX,h]
  rw [bB,bB,e,eW h n]
theorem fA {t t':Rz} (hm:t'.mask=t.mask) (h:Int):t'.probeStart h=t.probeStart h:=by simp only [SetTable.probeStart,hm]
theorem b8 {α:Type} (xs:Array α) {p:Nat} (hp:p<=xs.size) (x:α):(RF xs p x).size=xs.size+1:=by
 unfold RF;simp;omega
theorem fB {α:Type} (xs:Array α) {p:Nat} (hp:p<=xs.size) (x:α) (i:Nat):(RF xs p x)[i]?=if i<p then xs[i]? else if i=p then some x else xs[i - 1]?:=by
 unfold RF;rw [Array.getElem?_append];have e:((xs.extract 0 p).push x).size=p+1:=by simp;omega
 rw [e];by_cases h1:i<p
 ·rw [if_pos (Sh h1),if_pos h1,UJ]
  rw [if_neg (by simp;omega),WH];simp;omega
 ·rw [if_neg h1]
  by_cases h2:i=p
  ·rw [if_pos (Nat.lt_succ_of_le (UL h2)),if_pos h2,UJ]
   rw [if_pos (by simp;omega)]
  ·rw [if_neg (by omega),if_neg h2,WH]
   have e2:p+(i - (p+1))=i - 1:=by omega
   rw [e2];by_cases h3:i - 1<xs.size
   ·rw [if_pos (by omega)]
   ·rw [if_neg (by omega)]
    simp;omega
theorem gQ {α:Type} (xs:Array α) {p:Nat} (hp:p<=xs.size) (x d:α) (i:Nat):(RF xs p x).getD i d=if i<p then xs.getD i d else if i=p then x else xs.getD (i - 1) d:=by
 rw [Rt,fB xs hp x i,Rt,Rt];split
 ·rfl
 ·split <;> rfl
theorem nH {t:Rz} {hs:Array Int} (I:oF t hs) {h:Int} {n:Nat} (hn:n<10 * (t.mask+15)) (he:t.slot (bB t n (t.probeStart h)).j=.empty) (hj:(bB t n (t.probeStart h)).j<=t.mask)
  (hw:∀m,m<n->t.slot (bB t m (t.probeStart h)).j≠.empty) (BP:hs.size+1<=t.mask) :
  oF (t.put (bB t n (t.probeStart h)).j).1 (RF hs (t.put (bB t n (t.probeStart h)).j).2 h)/\(t.put (bB t n (t.probeStart h)).j).2<=hs.size:=by
 generalize ON:(bB t n (t.probeStart h)).j=j at *
 have GO:∀i,i<t.place.size->t.place.getD i 0≠j:=fun i hi e=>by
  have z:=eV I.tb hi;rw [e,he] at z;cases z
 have hb:=fw t.place I.tb.ri j;have uK:(t.put j).2=RZ t.place j:=rfl
 have hm:(t.put j).1.mask=t.mask:=rfl;have hpl:(t.put j).1.place=RF t.place (RZ t.place j) j:=rfl
 have hd:(t.put j).1.dummies = #[]:=by
  show(if WZ t.dummies j then _ else t.dummies) = #[];rw [I.tb.nd];simp [WZ]
 have gp:=gQ t.place hb.1 j 0;have sp:=b8 t.place hb.1 j
 generalize RZ t.place j=bb at hb uK hpl gp sp;have hsz:=I.sz
 have Bw:bb<=hs.size:=by omega
 have ri:Ri (t.put j).1.place:=fun a b hab OO=>by
  rw [hpl,sp] at OO;rw [hpl,gp,gp];have h1:=hb.2.1
  have h2:=hb.2.2;by_cases b1:b<bb
  ·rw [if_pos (S2 hab b1),if_pos b1];exact I.tb.ri a b hab (Rp b1 hb.1)
  ·rw [if_neg b1]
   by_cases b2:b=bb
   ·rw [if_pos b2,if_pos (b2 ▸ hab)];exact h1 a (b2 ▸ hab)
   ·rw [if_neg b2]
    have b3:bb<=b - 1:=by omega
    have b4:b - 1<t.place.size:=by omega
    by_cases a1:a<bb
    ·rw [if_pos a1];exact I.tb.ri a (b - 1) (Rp a1 b3) b4
    ·rw [if_neg a1]
     by_cases a2:a=bb
     ·rw [if_pos a2]
      have z:=h2 (b - 1) b3 b4;have y:=GO (b - 1) b4
      omega
     ·rw [if_neg a2];exact I.tb.ri (a - 1) (b - 1) (by omega) b4
 have tb:Tb (t.put j).1:=⟨ri,hd⟩;have mono:∀c,t.slot c≠.empty->(t.put j).1.slot c≠.empty:=fun c hc z=>by
  rcases ia I.tb c with⟨i,h1,h2,_⟩|⟨_,h2⟩
  ·have key:∃i',i'<(t.put j).1.place.size/\(t.put j).1.place.getD i' 0=c:=by
    rw [hpl,sp];by_cases q:i<bb
    ·exact⟨i,Sh h1,by rw [gp,if_pos q];exact h2⟩
    ·exact⟨i+1,Nat.succ_lt_succ h1,by rw [gp,if_neg (by omega),if_neg (by omega)];exact h2⟩
   obtain⟨i',k1,k2⟩:=key;have y:=eV tb k1
   rw [k2,z] at y;cases y
  ·exact hc h2
 refine⟨⟨tb,?_,?_,?_,?_,?_⟩,?_⟩
 ·rw [uK,hpl,sp,b8 hs Bw,hsz]
 ·intro i hi
  rw [hpl,sp] at hi;rw [hpl,gp,hm];split
  ·exact I.le i (by omega)
  ·split
   ·exact hj
   ·exact I.le (i - 1) (by omega)
 ·rw [uK,b8 hs Bw,hm];exact BP
 ·rw [hm];exact I.pw
 ·intro i hi
  rw [uK,b8 hs Bw] at hi;rw [uK,hpl,gp,gQ hs Bw];have lift:∀h' c,D0 t h' c->D0 (t.put j).1 h' c:=fun h' c ⟨n',k1,k2,k3⟩ =>
   ⟨n',by rw [hm];exact k1,by rw [fA hm,eW hm];exact k2,fun m q=>by rw [fA hm,eW hm];exact mono _ (k3 m q)⟩
  split
  ·exact lift _ _ (I.rG i (by omega))
  ·split
   ·exact lift _ _ ⟨n,hn,ON,hw⟩
   ·exact lift _ _ (I.rG (i - 1) (by omega))
 ·rw [uK];exact Bw
theorem GP {mask k:Nat} (hk:mask+1=2 ^ k) (h:Int) {j:Nat} (hj:j<=mask):∃q,q<=13+mask/\(lp mask q (RS h % (mask+1),RS h)).1=j:=by
 have hb:RS h<2 ^ 64:=by
  unfold RS;have h1:=S6 h (show(0:Int)<2 ^ 64 by decide)
  have h2:=S4 h (show(2 ^ 64:Int)≠0 by decide);omega
 let x:Nat × Nat:=(RS h % (mask+1),RS h)
 obtain⟨r,hr,hx⟩:=cover k (lp mask 13 x).1 j (by omega);rw [<- hk] at hx hr;have h1:=rE (mask:=mask) (x:=x) hb r
 have h2:(lp mask (13+r) x).1<mask+1:=by
  rw [show 13+r=(12+r)+1 by omega,lp,Se];exact Ve _ (VN _)
 rw [Ww h2,hx] at h1;exact⟨13+r,by omega,h1⟩
theorem jP (t:Rz):∀(n more j i pb:Nat) (d:Option Nat),n<=more->bB t n { j:=j,more:=more,i:=i,perturb:=pb,dummy:=d }={ j:=j+n,more:=more - n,i:=i,perturb:=pb,dummy:=d }
 | 0,more,j,i,pb,d,_=>rfl
 | n+1,0,j,i,pb,d,h=>absurd h (by omega)
 | n+1,more+1,j,i,pb,d,h=>by
  rw [bB];have e:t.advance { j:=j,more:=more+1,i:=i,perturb:=pb,dummy:=d }={ j:=j+1,more:=more,i:=i,perturb:=pb,dummy:=d }:=by simp [TX]
  rw [e,jP t n more (j+1) i pb d (by omega)];simp only [SetTable.Probe.mk.injEq,and_true];omega
noncomputable def Fr (owner:Array (Option Nat)) (c:Nat):Prop:=(owner.getD c (some 0)).isNone=true
theorem pB (mask:Nat) (x:Nat × Nat):∀q,lp mask (q+1) x=lp mask q (Se mask x.1 x.2)
 | 0=>rfl
 | q+1=>by rw [lp,pB mask x q,lp]
theorem mL (t:Rz) (owner:Array (Option Nat)):∀(fuel i pb:Nat),(∃q,q<fuel/\Fr owner (lp t.mask q (i,pb)).1) ->
  ∃j n,U8 t.mask owner fuel i pb=some j/\n+1<=10 * fuel/\(bB t n (start t.mask i pb none)).j=j/\Fr owner j/\∀m,m<n->¬ Fr owner (bB t m (start t.mask i pb none)).j
 | 0,i,pb,⟨q,hq,_⟩=>absurd hq (by omega)
 | fuel+1,i,pb,⟨q,hq,hf⟩=>by
  have hr:RI t.mask i - i<=9/\i<=RI t.mask i:=by
   unfold RI;split <;> omega
  unfold U8;cases e:(RV (RI t.mask i+1 - i)).find? fun k=>(owner.getD (i+k) (some 0)).isNone with
  | some k =>
   obtain⟨h1,hk,h3⟩:=List.find?_range_eq_some.mp e;have hk:=R2.mp hk
   have OP:∀m,m<k->(owner.getD (i+m) (some 0)).isNone=false:=fun m hm=>by simpa using h3 m hm
   refine⟨i+k,k,rfl,by omega,?_,h1,fun m hm=>?_⟩
   ·rw [start,jP t k _ _ _ _ _ (by omega)]
   ·rw [start,jP t m _ _ _ _ _ (by omega)]
    show ¬ (owner.getD (i+m) (some 0)).isNone=true;rw [OP m hm];simp
  | none =>
   have jm:∀k,k<RI t.mask i+1 - i->(owner.getD (i+k) (some 0)).isNone=false:=fun k hk=>by
    have:=List.find?_eq_none.mp e k (R2.mpr hk);exact Bool.eq_false_iff.mpr this
   obtain⟨q,rfl⟩:∃q',q=q'+1:=by
    cases q with
    | zero =>
     have z:=jm 0 (by omega);have hf:(owner.getD i (some 0)).isNone=true:=hf
     rw [VM,hf] at z;cases z
    | succ q=>exact⟨q,rfl⟩
   rw [pB] at hf;obtain⟨j,n,g1,g2,g3,g4,g5⟩:=mL t owner fuel (Se t.mask i pb).1 (Se t.mask i pb).2 ⟨q,by omega,hf⟩;refine⟨j,(RI t.mask i - i+1)+n,g1,by omega,?_,g4,fun m hm=>?_⟩
   ·rw [fy,start,iM];exact g3
   ·by_cases vn:m<=RI t.mask i - i
    ·rw [start,jP t m _ _ _ _ _ vn]
     show ¬ (owner.getD (i+m) (some 0)).isNone=true;rw [jm m (by omega)];simp
    ·have em:m=(RI t.mask i - i+1)+(m - (RI t.mask i - i+1)):=by omega
     rw [em,fy,start,iM];exact g5 _ (by omega)
theorem mM:∀(n:Nat) (l:List Nat),l.Nodup->(∀x∈l,x<n)->l.length<=n
 | 0,l,_,h=>by
  cases l with
  | nil=>simp
  | cons a r=>exact absurd (h a (by simp)) (by omega)
 | n+1,l,hn,h=>by
  have h1:=mM n (l.erase n) (hn.erase n) fun x hx=>by
   have a:=h x (List.mem_of_mem_erase hx);have b:x≠n:=fun e=>by
    subst e;exact(hn.not_mem_erase) hx
   omega
  have h2:l.length<=(l.erase n).length+1:=by
   by_cases hm:n∈l
   ·rw [UO hm];omega
   ·rw [List.erase_of_not_mem hm];omega
  omega
structure Own (t:Rz) (owner:Array (Option Nat)) (hs:List Int) (pos:Nat->Nat):Prop where
 sz:owner.size=t.mask+1
 at_:∀c,c<=t.mask->∀i,owner.getD c none=some i↔(i<hs.length/\pos i=c)
 le:∀i,i<hs.length->pos i<=t.mask
 rG:∀i (hi:i<hs.length),∃n,n<10 * (t.mask+15)/\(bB t n (t.probeStart hs[i])).j=pos i/\∀m,m<n->¬ Fr owner (bB t m (t.probeStart hs[i])).j
theorem Own.kJ {t:Rz} {owner:Array (Option Nat)} {hs:List Int} {pos:Nat->Nat} (O:Own t owner hs pos) (c:Nat):Fr owner c↔(c<=t.mask/\∀i,i<hs.length->pos i≠c):=by
 unfold Fr;constructor
 ·intro h
  have hc:c<=t.mask:=by
   refine SW fun hc=>?_
   have hs':=O.sz;have:owner.getD c (some 0)=some 0:=by simp [SR,show ¬ c<owner.size by omega]
   rw [this] at h;cases h
  refine⟨hc,fun i hi e=>?_⟩;have z:=(O.at_ c hc i).mpr ⟨hi,e⟩
  have bL:c<owner.size:=by rw [O.sz];omega
  have e2:owner.getD c (some 0)=owner.getD c none:=by simp [SR,bL]
  rw [e2,z] at h;cases h
 ·rintro⟨hc,h⟩
  have bL:c<owner.size:=by rw [O.sz];omega
  have e2:owner.getD c (some 0)=owner.getD c none:=by simp [SR,bL]
  rw [e2];cases e:owner.getD c none with
  | none=>rfl
  | some i =>
   obtain⟨h1,h2⟩:=(O.at_ c hc i).mp e;exact absurd h2 (h i h1)
theorem Own.uL {t:Rz} {owner:Array (Option Nat)} {hs:List Int} {pos:Nat->Nat} (O:Own t owner hs pos) (hf:hs.length<=t.mask):∃c,c<=t.mask/\Fr owner c:=by
 refine SW fun jm=>?_
 have all:∀c,c<=t.mask->∃i,i<hs.length/\pos i=c:=fun c hc=>SW fun hn=>jm ⟨c,hc,(O.kJ c).mpr ⟨hc,fun i hi e=>hn ⟨i,hi,e⟩⟩⟩
 have Kc:∀c,∃i,c<=t.mask->i<hs.length/\pos i=c:=fun c=>by
  by_cases hc:c<=t.mask
  ·obtain⟨i,h⟩:=all c hc;exact⟨i,fun _=>h⟩
  ·exact⟨0,fun z=>absurd z hc⟩
 obtain⟨g,hg⟩:=XI.mp Kc;have h1:=mM hs.length ((RV (t.mask+1)).map g) (by
  unfold List.Nodup;rw [Up];refine Wc (R:=fun a b=>a<b) (fun {a b} ha hb bL e=>?_) WI;have ha':=(hg a (by have:=R2.mp ha;omega)).2
  have hb':=(hg b (by have:=R2.mp hb;omega)).2;rw [e] at ha';omega) fun x hx=>by
   obtain⟨c,hc,rfl⟩:=Rj.mp hx;exact(hg c (by have:=R2.mp hc;omega)).1
 simp at h1;omega
noncomputable def xe (mask:Nat) (acc:Option (Array (Option Nat) × Nat)) (h:Int):Option (Array (Option Nat) × Nat):=do
 let (owner,k) <- acc
 let j <- U8 mask owner (SX mask) (RS h % (mask+1)) (RS h)
 pure (owner.setIfInBounds j (some k),k+1)
theorem pC (mask:Nat) (hashes:Array Int):Vf mask hashes=(hashes.toList.foldl (xe mask) (some (Array.replicate (mask+1) none,0))).map (·.1):=by
 unfold Vf;rw [<- Array.foldl_toList];rfl
theorem Own.step {t:Rz} {k:Nat} (hk:t.mask+1=2 ^ k) {owner:Array (Option Nat)} {hs:List Int} {pos:Nat->Nat} (O:Own t owner hs pos) (hf:hs.length<=t.mask) (h:Int) :
  ∃kL pos',xe t.mask (some (owner,hs.length)) h=some (kL,hs.length+1)/\Own t kL (hs++[h]) pos':=by
 obtain⟨c,hc,vS⟩:=O.uL hf;obtain⟨q,hq,e⟩:=GP hk h hc;obtain⟨j,n,g1,g2,g3,g4,g5⟩:=mL t owner (SX t.mask) (RS h % (t.mask+1)) (RS h) ⟨q,by unfold SX;omega,by rw [e];exact vS⟩;have hj:=(O.kJ j).mp g4
 have FE:∀i,i<hs.length+1->i≠hs.length->i<hs.length:=fun i a b=>by omega
 have bL:j<owner.size:=by rw [O.sz];omega
 have gs:∀c d,(owner.setIfInBounds j (some hs.length)).getD c d=if c=j then some hs.length else owner.getD c d:=fun c d=>by
  rw [Rt,Rt,Array.getElem?_setIfInBounds];by_cases ec:j=c
  ·subst ec;simp [bL]
  ·rw [if_neg ec,if_neg (Sy ec)]
 refine⟨owner.setIfInBounds j (some hs.length),fun i=>if i=hs.length then j else pos i,?_,?_⟩
 ·unfold xe
  simp only [Option.bind_eq_bind,Tr,g1];rfl
 ·have MK:∀c,Fr (owner.setIfInBounds j (some hs.length)) c->Fr owner c:=fun c hc=>by
   unfold Fr at hc ⊢;rw [gs] at hc;by_cases ec:c=j
   ·rw [if_pos ec] at hc;cases hc
   ·rw [if_neg ec] at hc;exact hc
  refine⟨by rw [Array.size_setIfInBounds];exact O.sz,fun c hc i=>?_,fun i hi=>?_,fun i hi=>?_⟩
  ·rw [gs,QT,Sn]
   by_cases ec:c=j
   ·subst ec
    rw [if_pos rfl];constructor
    ·intro e;cases e;exact⟨SK _,by rw [if_pos rfl]⟩
    ·rintro⟨h1,h2⟩
     by_cases ei:i=hs.length
     ·rw [ei]
     ·rw [if_neg ei] at h2
      exact absurd h2 (hj.2 i (FE i h1 ei))
   ·rw [if_neg ec,O.at_ c hc i]
    constructor
    ·rintro⟨h1,h2⟩;exact⟨Sh h1,by rw [if_neg (Rc h1)];exact h2⟩
    ·rintro⟨h1,h2⟩
     by_cases ei:i=hs.length
     ·rw [if_pos ei] at h2;exact absurd h2.symm ec
     ·rw [if_neg ei] at h2;exact⟨FE i h1 ei,h2⟩
  ·rw [QT,Sn] at hi
   by_cases ei:i=hs.length
   ·show(if i=hs.length then j else pos i)<=t.mask
    rw [if_pos ei];exact hj.1
   ·show(if i=hs.length then j else pos i)<=t.mask
    rw [if_neg ei];exact O.le i (FE i hi ei)
  ·rw [QT,Sn] at hi
   by_cases ei:i=hs.length
   ·subst ei
    have e2:(hs++[h])[hs.length]=h:=by simp
    rw [e2];refine⟨n,by unfold SX at g2;omega,by rw [if_pos rfl];exact g3,fun m hm z=>g5 m hm (MK _ z)⟩
   ·obtain⟨n',k1,k2,k3⟩:=O.rG i (FE i hi ei)
    have e2:(hs++[h])[i]=hs[i]'(FE i hi ei):=List.getElem_append_left (FE i hi ei);rw [e2];exact⟨n',k1,by rw [if_neg ei];exact k2,fun m hm z=>k3 m hm (MK _ z)⟩
theorem pD {t:Rz} {k:Nat} (hk:t.mask+1=2 ^ k):∀(l:List Int) (owner:Array (Option Nat)) (pre:List Int) (pos:Nat->Nat),Own t owner pre pos->pre.length+l.length<=t.mask+1 ->
  ∃kL pos',l.foldl (xe t.mask) (some (owner,pre.length))=some (kL,pre.length+l.length)/\Own t kL (pre++l) pos'
 | [],owner,pre,pos,O,_=>⟨owner,pos,by simp,by simpa using O⟩
 | h::l,owner,pre,pos,O,hf=>by
  simp only [QX] at hf;obtain⟨o1,p1,e1,O1⟩:=O.step hk (by omega) h;obtain⟨o2,p2,e2,O2⟩:=pD hk l o1 (pre++[h]) p1 O1 (by rw [QT,Sn];omega);refine⟨o2,p2,?_,by simpa using O2⟩;rw [US,e1];rw [QT,Sn] at e2;rw [e2];simp only [QX];congr 2;omega
theorem D1 {t:Rz} {k:Nat} (hk:t.mask+1=2 ^ k) (hs:Array Int) (hf:hs.size<=t.mask):∃owner pos,Vf t.mask hs=some owner/\Own t owner hs.toList pos:=by
 have O0:Own t (Array.replicate (t.mask+1) none) [] (fun _=>0):=⟨by simp,fun c hc i=>by simp [SR,hc],fun i hi=>by simp at hi,fun i hi=>by simp at hi⟩;obtain⟨o,p,e,O⟩:=pD hk hs.toList _ [] _ O0 (by simp;omega);refine⟨o,p,?_,by simpa using O⟩;rw [pC,show(0:Nat)=([]:List Int).length from rfl,e];rfl
theorem mN {mask i:Nat} (h:i<=mask):i<=RI mask i/\RI mask i<=mask:=by
 unfold RI;split <;> omega
theorem rH (t:Rz) (p:Tc) (h:p.j+p.more<=t.mask):(t.advance p).j+(t.advance p).more<=t.mask:=by
 unfold TX;split
 ·show p.j+1+(p.more - 1)<=t.mask
  omega
 ·have hl:(Se t.mask p.i p.perturb).1<=t.mask:=by
   unfold Se;exact Nat.le_of_lt_succ (Ve _ (VN _))
  have hr:=mN hl;show(Se t.mask p.i p.perturb).1+(RI t.mask (Se t.mask p.i p.perturb).1 - (Se t.mask p.i p.perturb).1)<=t.mask
  omega
theorem rI (t:Rz):∀(n:Nat) (p:Tc),p.j+p.more<=t.mask->(bB t n p).j<=t.mask
 | 0,p,h=>by show p.j<=t.mask;omega
 | n+1,p,h=>rI t n _ (rH t p h)
theorem pE (t:Rz) (h:Int):(t.probeStart h).j+(t.probeStart h).more<=t.mask:=by
 have hl:RS h % (t.mask+1)<=t.mask:=Nat.le_of_lt_succ (Ve _ (VN _));have hr:=mN hl
 show RS h % (t.mask+1)+(RI t.mask (RS h % (t.mask+1)) - RS h % (t.mask+1))<=t.mask;omega
theorem As {mask k:Nat} (hk:mask+1=2 ^ k) (finger moves:Nat) (led plain:Bool) (hs:Array Int) (hf:hs.size<=mask) :
  ∃t order,SetTable.laid mask finger moves led plain hs=some (t,order)/\t.mask=mask/\t.led=led/\t.plain=plain/\order.toList.Perm (RV hs.size)/\oF t (order.map fun i=>hs.getD i 0):=by
 let t0:Rz:={ mask:=mask,place:=#[],dummies:=#[],finger:=finger,led:=led,moves:=moves,plain:=plain }
 obtain⟨owner,pos,e,O⟩:=D1 (t:=t0) hk hs hf;have e:Vf mask hs=some owner:=e
 let live:List (Nat × Nat):=(RV (mask+1)).filterMap fun j=>(owner.getD j none).map (j,·)
 let t:Rz:={ mask:=mask,place:=(live.map (·.1)).toArray,dummies:=#[],finger:=finger,led:=led,moves:=moves,plain:=plain }
 have hlen:hs.toList.length=hs.size:=by simp
 have mem:∀j i,(j,i)∈live↔(j<=mask/\i<hs.size/\pos i=j):=fun j i=>by
  have z:(j,i)∈live↔∃a,a∈RV (mask+1)/\(owner.getD a none).map (a,·)=some (j,i):=VK;rw [z];constructor
  ·rintro⟨a,h1,h2⟩
   obtain⟨b,h3,h4⟩:=QY.mp h2;cases h4;have ha:j<=mask:=by have:=R2.mp h1;omega
   have:=(O.at_ j ha i).mp h3;exact⟨ha,by rw [<- hlen];exact this.1,this.2⟩
  ·rintro⟨h1,h2,h3⟩
   exact⟨j,R2.mpr (by omega),by rw [(O.at_ j h1 i).mpr ⟨by rw [hlen];exact h2,h3⟩];rfl⟩
 have rise:live.Pairwise fun a b=>a.1<b.1:=by
  refine List.Pairwise.filterMap (R:=fun a b=>a<b) _ (fun a a' OQ b hb b' hb'=>?_) WI;obtain⟨_,_,rfl⟩:=QY.mp hb;obtain⟨_,_,rfl⟩:=QY.mp hb';exact OQ
 have OR:(live.map (·.2)).Nodup:=by
  unfold List.Nodup;rw [Up];refine Wc (fun {a b} ha hb bL e2=>?_) rise;have h1:=((mem a.1 a.2).mp ha).2.2
  have h2:=((mem b.1 b.2).mp hb).2.2;rw [e2] at h1;omega
 have perm:(live.map (·.2)).Perm (RV hs.size):=by
  refine(VF OR List.nodup_range).mpr fun i=>?_
  rw [R2];constructor
  ·intro hi
   obtain⟨⟨j,i'⟩,h1,rfl⟩:=Rj.mp hi;exact((mem j i').mp h1).2.1
  ·intro hi
   exact Rj.mpr ⟨(pos i,i),(mem _ _).mpr ⟨O.le i (by rw [hlen];exact hi),hi,rfl⟩,rfl⟩
 have ri:Ri t.place:=fun a b hab hb=>by
  show(live.map (·.1)).toArray.getD a 0<(live.map (·.1)).toArray.getD b 0;have hb':b<live.length:=by
   have:(live.map (·.1)).toArray.size=live.length:=by simp
   show b<live.length;rw [<- this];exact hb
  have z:=VX.mp rise a b (by omega) hb' hab;simpa [SR,show a<live.length by omega,hb'] using z
 have tb:Tb t:=⟨ri,rfl⟩;have Ke:t.place.size=live.length:=by show(live.map (·.1)).toArray.size=_;simp
 have D3:∀i (hi:i<live.length),t.place.getD i 0=(live[i]).1:=fun i hi=>by
  show(live.map (·.1)).toArray.getD i 0=_;simp [SR,hi]
 have full:∀c,¬ Fr owner c->c<=mask->t.slot c≠.empty:=fun c hc hle z=>by
  have hex:∃i,i<hs.size/\pos i=c:=SW fun jm=>hc ((O.kJ c).mpr ⟨hle,fun i hi e2=>jm ⟨i,by rw [<- hlen];exact hi,e2⟩⟩)
  obtain⟨i,h1,h2⟩:=hex;obtain⟨a,ha,ea⟩:=Ux.mp ((mem c i).mpr ⟨hle,h1,h2⟩);have y:=eV tb (i:=a) (by rw [Ke];exact ha)
  rw [D3 a ha,ea,z] at y;cases y
 have Kf:live.length=hs.size:=by
  have:=perm.length_eq;simpa using this
 have GQ:∀h m,(bB t m (t.probeStart h)).j<=mask:=fun h m=>rI t m _ (pE t h)
 refine⟨t,(live.map (·.2)).toArray,?_,rfl,rfl,rfl,by simpa using perm,tb,?_,?_,?_,⟨k,hk⟩,?_⟩
 ·unfold SetTable.laid
  rw [e];rfl
 ·rw [Ke];simp
 ·intro i hi
  rw [Ke] at hi;rw [D3 i hi];exact((mem _ _).mp (Q6 hi)).1
 ·rw [R9,So,Lm9,Kf];exact hf
 ·intro i hi
  have hi':i<live.length:=by simpa using hi
  have e1:((live.map (·.2)).toArray.map fun i=>hs.getD i 0).getD i 0=hs.getD (live[i]).2 0:=by simp [SR,hi']
  rw [e1,D3 i hi'];have mm:(live[i]).1<=mask/\(live[i]).2<hs.size/\pos (live[i]).2=(live[i]).1:=(mem _ _).mp (Q6 hi')
  obtain⟨m1,m2,m3⟩:=mm;obtain⟨n,k1,k2,k3⟩:=O.rG (live[i]).2 (by rw [hlen];exact m2);have e2:hs.toList[(live[i]).2]'(by rw [hlen];exact m2)=hs.getD (live[i]).2 0:=by simp [SR,m2]
  rw [e2] at k2 k3;refine⟨n,k1,?_,fun m hm=>?_⟩
  ·rw [eW (t:=t0) (t':=t) rfl,fA (t:=t0) (t':=t) rfl,k2,m3]
  ·refine full _ ?_ (GQ _ _)
   rw [eW (t:=t0) (t':=t) rfl,fA (t:=t0) (t':=t) rfl];exact k3 m hm
theorem mO (t:Rz):∀(n:Nat) (p:Tc),(bB t n p).dummy=p.dummy
 | 0,p=>rfl
 | n+1,p=>by
  rw [bB,mO t n];unfold TX;split <;> rfl
theorem xf (t:Rz) (n:Nat) (p:Tc):t.advance (bB t n p)=bB t (n+1) p:=by
 rw [fy t n 1 p];rfl
theorem BQ {t:Rz} {H:Nat->Int} {h:Int} {m0 c:Nat} (hb:∀c',c'<c->∃i,t.slot (bB t (m0+c') (t.probeStart h)).j=.live i/\(H i == h)=false) (hc:c<10 * SX t.mask) :
  ∃f,t.probe H h (bB t m0 (t.probeStart h))=TL t H h (f+1) (bB t (m0+c) (t.probeStart h)):=by
 refine⟨10 * SX t.mask - c - 1,?_⟩;unfold SetTable.probe;rw [xd t H h c _ _ (fun m hm=>by rw [<- fy];exact hb m hm) (by omega),<- fy];congr 1;omega
theorem xg {t:Rz} {H:Nat->Int} {h:Int} {m0 c:Nat} (hs:t.slot (bB t (m0+c) (t.probeStart h)).j=.empty) (hc:c<10 * SX t.mask)
  (hb:∀c',c'<c->∃i,t.slot (bB t (m0+c') (t.probeStart h)).j=.live i/\(H i == h)=false):t.probe H h (bB t m0 (t.probeStart h))=some (.empty (bB t (m0+c) (t.probeStart h)).j none):=by
 obtain⟨f,e⟩:=BQ hb hc;rw [e,TL,hs];simp only [mO];rfl
theorem Au {t:Rz} {H:Nat->Int} {h:Int} {m0 c i:Nat} (hs:t.slot (bB t (m0+c) (t.probeStart h)).j=.live i) (hc:c<10 * SX t.mask)
  (hb:∀c',c'<c->∃i,t.slot (bB t (m0+c') (t.probeStart h)).j=.live i/\(H i == h)=false) (hi:(H i == h)=true) :
  t.probe H h (bB t m0 (t.probeStart h))=some (.candidate (bB t (m0+c) (t.probeStart h)).j i (bB t (m0+c+1) (t.probeStart h))):=by
 obtain⟨f,e⟩:=BQ hb hc;rw [e,TL,hs];simp only [hi,if_true,xf]
section
variable {prog:RY} {w:SU} {A:RH} {E:QN->QP->Prop} {s:QP} {a:Rm} {o:Obj} {es:Array (Int × QN)} {ep:Nat} {t:Rz} {x:QN} {h:Int} {eqv:Nat->Bool} {Q:SetFound->QP->Prop}
theorem uM (ho:s.heap.get? a=some o) (hd:o.data=.set es ep t) (I:oF t (es.map (·.1))) (Av:(t.mask % 2 == 0)=false)
  (hq:∀i (hi:i<es.size),(es[i]).1=h->S5 A s (es[i]).2 x (eqv i)) (GR:∀i (hi:i<es.size),∃b,(es[i]).2=.ref b)
  (xh:t.led=false->∀Q':Bool->QP->Prop,Q' false s->QZ (model prog w) A (searchCouldBeSeen x ((es.filter (·.1 == h)).toList.map (·.2))) Q' E s)
  {n:Nat} (hn:n<=10 * (t.mask+14))
  (uN:∀m,m<n->∃i,i<t.place.size/\t.slot (bB t m (t.probeStart h)).j=.live i/\¬ (∃hi:i<es.size,(es[i]).1=h/\eqv i=true))
  (hend:(t.slot (bB t n (t.probeStart h)).j=.empty/\Q (.free (bB t n (t.probeStart h)).j false) s)\/((∃i,t.slot (bB t n (t.probeStart h)).j=.live i/\∃hi:i<es.size,(es[i]).1=h/\eqv i=true)/\Q (.there none) s)) :
  ∀(d m0 fuel:Nat) (xi:Option Tc),m0+d=n->d<fuel->xi.getD (t.probeStart h)=bB t m0 (t.probeStart h)->QZ (model prog w) A (setSearchFrom a x h true fuel xi) Q E s:=by
 intro d;induction d using Nat.strongRecOn with
 | ind d ih =>
  intro m0 fuel xi hm Qy CZ;obtain⟨fuel,rfl⟩:∃g,fuel=g+1:=⟨fuel - 1,by omega⟩;have hfit:t.fits es.size=true:=by
   have z:=I.sz;have f:=I.fill
   rw [R9] at z f;simp only [SetTable.fits,Xr,I.tb.nd,QS,beq_iff_eq,decide_eq_true_eq];exact⟨z,by simp;omega⟩
  unfold setSearchFrom;refine QJ (RL ho hd hfit ?_);dsimp only;have hg:t.gaveWay=false:=Av
  rw [hg];simp only [QW,if_false];rw [CZ];have hsz:t.place.size=es.size:=by have z:=I.sz;rw [R9] at z;exact z
  have gH:∀i (hi:i<es.size),((es[i]?.map (·.1)).getD 0)=(es[i]).1:=fun i hi=>by simp [hi]
  obtain⟨c,hcd,hP,Kg⟩:=first (fun c=>m0+c=n\/∃i,t.slot (bB t (m0+c) (t.probeStart h)).j=.live i/\∃hi:i<es.size,(es[i]).1=h) d (.inl hm)
  have DI:c<10 * SX t.mask:=by unfold SX;omega
  have hb:∀c',c'<c->∃i,t.slot (bB t (m0+c') (t.probeStart h)).j=.live i/\(((es[i]?.map (·.1)).getD 0) == h)=false:=fun c' hc'=>by
   have jm:=Kg c' hc';obtain⟨i,h1,h2,_⟩:=uN (m0+c') (by omega);refine⟨i,h2,?_⟩;rw [gH i (by omega)];exact beq_eq_false_iff_ne.mpr fun e=>jm (.inr ⟨i,h2,by omega,e⟩)
  have GS:(m0+c=n/\t.slot (bB t (m0+c) (t.probeStart h)).j=.empty)\/∃i,∃hi:i<es.size,t.slot (bB t (m0+c) (t.probeStart h)).j=.live i/\(es[i]).1=h:=by
   rcases hP with e|⟨i,h1,hi,h2⟩
   ·rcases hend with⟨z,_⟩|⟨⟨i,z,hi,h1,_⟩,_⟩
    ·exact .inl ⟨e,by rw [e];exact z⟩
    ·exact .inr ⟨i,hi,by rw [e];exact z,h1⟩
   ·exact .inr ⟨i,hi,h1,h2⟩
  rcases GS with⟨e,hs⟩|⟨i,hi,hs,hh⟩
  ·rw [xg hs DI]
   rotate_left
   ·exact hb
   dsimp only;rcases hend with⟨_,q⟩|⟨⟨i,z,_⟩,_⟩
   ·refine QL ?_
    rw [e];exact q
   ·rw [<- e,hs] at z;cases z
  ·rw [Au (i:=i) hs DI]
   case hb=>exact hb
   case hi =>
    show(((es[i]?.map (·.1)).getD 0) == h)=true;rw [gH i hi,hh];simp
   dsimp only;obtain⟨b,C2⟩:=GR i hi;have ge:es[i]?=some (es[i]):=by simp [hi]
   have tail:QZ (model prog w) A (do
     let some (_,y):=es[i]?|unsupported "internal:set-entry"
     let equal <- holding [y] (eqBool y x)
     let (es',_,t') <- setState a
     if true && equal then return .there none
     let some same:=t'.sameMemory t.moves t.mask|unsupported "set.changed-during-lookup:is-the-new-block-at-the-old-address"
     let GU <- match (if same then t'.slot (bB t (m0+c) (t.probeStart h)).j else .empty) with
      | .live i'=>match es'[i']? with
       | some (_,y')=>do pure (if <- isSame y' y then some i' else none)
       | none=>pure none
      | _=>pure none
     match GU with
     | none=>rule "set.search.anew";setSearchFrom a x h true fuel none
     | some i'=>if equal then return .there (some i') else setSearchFrom a x h true fuel (some (bB t (m0+c+1) (t.probeStart h)))) Q E s:=by
    rw [ge];dsimp only;refine QJ (wpAny_holding (hq i hi hh prog w _ _ ?_));refine QJ (RL ho hd hfit ?_);dsimp only;cases ev:eqv i with
    | true =>
     simp only [Bool.and_self,if_true];refine QL ?_;rcases hend with⟨z,_⟩|⟨_,q⟩
     ·exfalso
      by_cases en:m0+c=n
      ·rw [<- en,hs] at z;cases z
      ·obtain⟨i',_,h2,h3⟩:=uN (m0+c) (by omega)
       rw [hs] at h2;cases h2;exact h3 ⟨hi,hh,ev⟩
     ·exact q
    | false =>
     simp only [UB,QW,if_false];have hmem:t.sameMemory t.moves t.mask=some true:=by simp [SetTable.sameMemory]
     rw [hmem];simp only [if_true];rw [hs];simp only [ge,C2];refine QJ (wpAny_isSame_ref_self (QJ (QL ?_)));simp only [if_true,QW,if_false];have bL:m0+c<n:=by
      refine Nat.lt_of_le_of_ne (by omega) fun en=>?_
      rcases hend with⟨z,_⟩|⟨⟨i',z,hi',h1,h2⟩,_⟩
      ·rw [<- en,hs] at z;cases z
      ·rw [<- en,hs] at z
       cases z;rw [ev] at h2;cases h2
     exact ih (n - (m0+c+1)) (by omega) (m0+c+1) fuel _ (by omega) (by omega) rfl
   cases hl:t.led with
   | true =>
    simp only [SV,QW,if_false];exact tail
   | false =>
    simp only [TZ,if_true];refine QJ (xh hl _ ?_);simp only [QW,if_false];exact tail
end
theorem pF (n:Nat):∀(fuel k:Nat),n<2 ^ (k+fuel)->2 ^ k<=8+2 * n->∃k',W0 n fuel (2 ^ k)=2 ^ k'/\n<2 ^ k'/\2 ^ k'<=8+2 * n
 | 0,k,h1,h2=>⟨k,rfl,h1,h2⟩
 | fuel+1,k,h1,h2=>by
  unfold W0;by_cases h:2 ^ k<=n
  ·rw [if_pos h,<- Ue]
   exact pF n fuel (k+1) (by rw [show k+1+fuel=k+(fuel+1) by omega];exact h1) (by rw [Ue];omega)
  ·rw [if_neg h]
   exact⟨k,rfl,by omega,h2⟩
theorem above {n:Nat} (h:n<2 ^ 60):∃k,VO n=2 ^ k/\n<2 ^ k/\2 ^ k<=8+2 * n :=
 pF n 64 3 (Rp h (W8 (by decide) (by decide))) (by omega)
theorem oF.plain {t:Rz} {hs:Array Int} (I:oF t hs) (b:Bool):oF { t with plain:=b } hs :=
 ⟨⟨I.tb.ri,I.tb.nd⟩,I.sz,I.le,I.fill,I.pw,fun i hi=>by
  obtain⟨n,h1,h2,h3⟩:=I.rG i hi;have e1:∀m p,bB { t with plain:=b } m p=bB t m p:=fun m p=>eW (t:=t) (t':={ t with plain:=b }) rfl m p
  exact⟨n,h1,by rw [e1];exact h2,fun m hm=>by rw [e1];exact h3 m hm⟩⟩
theorem nS {α β:Type} (f:α->β) (xs:Array α) {p:Nat} (hp:p<=xs.size) (x:α):(RF xs p x).map f=RF (xs.map f) p (f x):=by
 apply Array.ext_getElem?;intro i;rw [Array.getElem?_map,fB xs hp,fB (xs.map f) (by rw [R9];exact hp)];split
 ·simp
 ·split <;> simp
theorem mc {α:Type} (xs:Array α) {p:Nat} (hp:p<=xs.size) (x:α):(RF xs p x).toList.Perm (x::xs.toList):=by
 unfold RF;rw [Array.toList_append,V8,W9,W9];have e:xs.toList=xs.toList.take p++xs.toList.drop p:=(Ug p _).symm
 have e1:xs.toList.extract 0 p=xs.toList.take p:=by simp [VY]
 have e2:xs.toList.extract p xs.size=xs.toList.drop p:=by
  rw [VY];rw [RX];simp
 rw [e1,e2]
 conv=>rhs;rw [e]
 rw [Rn];exact List.perm_middle
noncomputable def SI (l:Bool) (h:Heap) (a:Rm) (es:Array (Int × QN)):Prop :=
 ∃o ep t,h.get? a=some o/\o.ExactSet/\o.data=.set es ep t/\oF t (es.map (·.1))/\es.size * 5<t.mask * 3/\t.mask<=8 * es.size+20/\(t.mask % 2 == 0)=false/\(∀i (hi:i<es.size),∃b,(es[i]).2=.ref b)/\t.led=l/\(1<=es.size->t.plain=false)
theorem oF.fits {t:Rz} {es:Array (Int × QN)} (I:oF t (es.map (·.1))):t.fits es.size=true:=by
 have z:=I.sz;have f:=I.fill
 rw [R9] at z f;simp only [SetTable.fits,Xr,I.tb.nd,QS,beq_iff_eq,decide_eq_true_eq];exact⟨z,by simp;omega⟩
theorem D4 {m k:Nat} (h:m+1=2 ^ k) (hm:1<=m):(m % 2 == 0)=false:=by
 cases k with
 | zero=>simp at h;omega
 | succ k =>
  rw [Ue] at h;have:m % 2=1:=by omega
  rw [this];rfl
theorem th {h:Heap} {a:Rm} {o:Obj} {es:Array (Int × QN)} {ep:Nat} {t:Rz} (ho:h.get? a=some o) (hd:o.data=.set es ep t) (es':Array (Int × QN)) (t':Rz) :
  (h.update a (Xw es' t')).get? a=some { o with data:=.set es' (ep+1) t' }:=by
 have:=RA (Xw es' t') ho (by rw [putSet_of es' t' hd];rfl);rw [putSet_of es' t' hd] at this;exact this
theorem fN {α:Type}:∀(l:List α),(RV l.length).filterMap (fun i=>l[i]?)=l
 | []=>rfl
 | a::r=>by
  rw [QX,WA,Xi];simp only [U1,List.filterMap_map];have e:((fun i=>(a::r)[i]?) ∘ Nat.succ)=fun i=>r[i]?:=by funext i;simp
  rw [e,fN r]
theorem kO (es:Array (Int × QN)):∀(l:List Nat),(∀i∈l,i<es.size)->(l.filterMap (fun i=>es[i]?)).map (·.1)=l.map fun i=>(es.map (·.1)).getD i 0
 | [],_=>rfl
 | i::l,h=>by
  have hi:=h i (by simp);have e:es[i]?=some es[i]:=by simp [hi]
  rw [Xi,e];simp only [Q4];rw [kO es l fun j hj=>h j (by simp [hj])];congr 1;simp [SR,hi]
section
variable {prog:RY} {w:SU} {A:RH} {E:QN->QP->Prop} {s:QP} {a:Rm} {es:Array (Int × QN)} {x:QN} {h:Int} {eqv:Nat->Bool} {l:Bool}
theorem xj {o:Obj} {ep:Nat} {t:Rz} {Q:Unit->QP->Prop} (ho:s.heap.get? a=some o) (hx:o.ExactSet) (hd:o.data=.set es ep t) (I:oF t (es.map (·.1))) (h1:1<=es.size) (hs:es.size<50000) (hr:∀i (hi:i<es.size),∃b,(es[i]).2=.ref b) (hL:t.led=l) (hP:t.plain=false)
  (hQ:∀h' es',Ss a s.heap h'->SI l h' a es'->es'.toList.Perm es.toList->Q () { s with heap:=h' }):QZ (model prog w) A (setRelay a (Td es.size)) Q E s:=by
 have hg:Td es.size<=4 * 100000/\Td es.size=4 * es.size:=by
  unfold Td;rw [if_neg (by omega)];omega
 obtain⟨k,e1,e2,e3⟩:=above (n:=Td es.size) (VJ hg.1 (by decide));have hm:VO (Td es.size) - 1+1=2 ^ k:=by rw [e1];omega
 obtain⟨t',order,f1,f2,f3,f4,f5,f6⟩:=As hm t.finger (t.movedTo (VO (Td es.size) - 1)) t.led t.plain (es.map (·.1)) (by rw [R9,e1];omega);rw [R9] at f5;unfold setRelay;refine QJ (RL ho hd I.fits ?_);dsimp only;rw [if_neg (by rw [e1,Sr];omega)];have Kh:t.relaid (es.map (·.1)) (Td es.size)=some (t',order):=f1
 rw [Kh];have Gj:(order.filterMap (es[·]?)).toList.Perm es.toList:=by
  rw [WJ];have z:=f5.filterMap (fun i=>es[i]?)
  refine z.trans (List.Perm.of_eq ?_);have y:=fN es.toList
  simpa using y
 have hsz:(order.filterMap (es[·]?)).size=es.size:=by
  rw [<- Sm,Gj.length_eq,Sm]
 have Ki:(order.filterMap (es[·]?)).map (·.1)=order.map fun i=>(es.map (·.1)).getD i 0:=by
  apply Array.toList_inj.mp;rw [Wu,WJ,Wu];exact kO es order.toList fun i hi=>R2.mp (f5.mem_iff.mp hi)
 show QZ (model prog w) A ((do
  let es':=order.filterMap (es[·]?)
  if es'.size != es.size then unsupported "internal:set-table-lost-an-element"
  pure (es',t')) >>= fun(p:Array (Int × QN) × Rz)=>storeSet a p.1 p.2) Q E s
 refine QJ ?_;dsimp only;rw [hsz];simp only [bne_self_eq_false,QW,if_false];refine QL (wpAny_storeSet_of ho hd ?_ (by rw [hsz,Sr];omega));have I':oF t' ((order.filterMap (es[·]?)).map (·.1)):=by rw [Ki];exact f6
 refine hQ _ (order.filterMap (es[·]?)) (RW _ _ _) ⟨_,_,t',th ho hd _ _,hx,rfl,I',?_,?_,?_,fun i hi=>?_,f3.trans hL,fun _=>f4.trans hP⟩ Gj
 ·rw [hsz,f2,e1];omega
 ·rw [hsz,f2,e1];omega
 ·rw [f2];exact D4 hm (by rw [e1];omega)
 ·have hm:(order.filterMap (es[·]?))[i]∈es.toList:=Gj.mem_iff.mp (by rw [Uv];exact V5 hi)
  obtain⟨j,hj,e⟩:=Ux.mp hm;have hj':j<es.size:=by simpa using hj
  obtain⟨b,hb⟩:=hr j hj';refine⟨b,?_⟩;rw [<- e];simpa using hb
theorem D5 {Q:Bool->QP->Prop} (hS:SI l s.heap a es) (hx:∃b,x=.ref b) (hs:es.size<1000) (hq:∀i (hi:i<es.size),(es[i]).1=h->S5 A s (es[i]).2 x (eqv i))
  (xh:∀Q':Bool->QP->Prop,Q' false s->QZ (model prog w) A (searchCouldBeSeen x ((es.filter (·.1 == h)).toList.map (·.2))) Q' E s)
  (OS:∀Q':Bool->QP->Prop,Q' false s->QZ (model prog w) A (hashByValue 8 x) Q' E s)
  (h1:(∃i,∃hi:i<es.size,(es[i]).1=h/\eqv i=true)->Q false s)
  (h2:(¬ ∃i,∃hi:i<es.size,(es[i]).1=h/\eqv i=true)->∀h' es',Ss a s.heap h'->SI l h' a es'->es'.toList.Perm ((h,x)::es.toList)->Q true { s with heap:=h' }) :
  QZ (model prog w) A (setAddHashed a x h) Q E s:=by
 obtain⟨o,ep,t,ho,hex,hd,I,BP,Qz,Av,hr,hL,hP⟩:=hS;obtain⟨b,rfl⟩:=hx;have hsz:t.place.size=es.size:=by have z:=I.sz;rw [R9] at z;exact z
 obtain⟨k,hk⟩:=I.pw;obtain⟨n,hn,hend,uN⟩:=way I.tb hk (by omega) h (fun i=>∃hi:i<es.size,(es[i]).1=h/\eqv i=true);have D6:t.slot (bB t n (t.probeStart h)).j=.empty->¬ ∃i,∃hi:i<es.size,(es[i]).1=h/\eqv i=true:=by
  rintro he ⟨i,hi,e1,e2⟩;obtain⟨n',g1,g2,g3⟩:=I.rG i (by rw [R9];exact hi);have eh:(es.map (·.1)).getD i 0=h:=by simp [SR,hi,e1]
  rw [eh] at g2 g3;have hl:=eV I.tb (i:=i) (by omega)
  rw [<- g2] at hl;rcases Wb n n' with q|q|q
  ·exact g3 n q he
  ·subst q;rw [he] at hl;cases hl
  ·obtain⟨i',_,w2,w3⟩:=uN n' q
   rw [hl] at w2;cases w2;exact w3 ⟨hi,e1,e2⟩
 unfold setAddHashed;refine wpAny_holding ?_;unfold setAddHashedIn;refine QJ (RL ho hd I.fits ?_);dsimp only;have hsc:byScan (.ref b) es=false:=rfl
 rw [hsc];simp only [QW,if_false];unfold setSearch;refine QJ (uM (n:=n) (eqv:=eqv) ho hd I Av hq hr (fun _=>xh) hn uN ?_ n 0 100000 none (by omega) (by omega) rfl);rcases hend with he|⟨i,_,hl,hi,e1,e2⟩
 ·refine .inl ⟨he,?_⟩
  dsimp only;refine QJ (RL ho hd I.fits ?_);dsimp only;have hj:(bB t n (t.probeStart h)).j<=t.mask:=rI t n _ (pE t h)
  obtain⟨I1,hp⟩:=nH I (h:=h) (n:=n) (by omega) he hj (fun m hm=>by obtain⟨i,_,z,_⟩:=uN m hm;rw [z];intro q;cases q) (by rw [R9];omega);rw [R9] at hp;rw [<- nS (·.1) es hp (h,Sz b)] at I1;have xk:=mc es hp (h,Sz b)
  have nP:(RF es (t.put (bB t n (t.probeStart h)).j).2 (h,Sz b)).size=es.size+1:=b8 es hp _;have ML:∀i (hi:i<(RF es (t.put (bB t n (t.probeStart h)).j).2 (h,Sz b)).size),∃b',((RF es (t.put (bB t n (t.probeStart h)).j).2 (h,Sz b))[i]).2=.ref b':=fun i hi=>by
   have hm:(RF es (t.put (bB t n (t.probeStart h)).j).2 (h,Sz b))[i]∈(h,Sz b)::es.toList:=xk.mem_iff.mp (by rw [Uv];exact V5 hi);rcases Q5.mp hm with e|e
   ·exact⟨b,by rw [e]⟩
   ·obtain⟨j,hj,e⟩:=Ux.mp e
    have hj':j<es.size:=by simpa using hj
    obtain⟨b',hb'⟩:=hr j hj';refine⟨b',?_⟩;rw [<- e];simpa using hb'
  have jm:=D6 he;generalize OT:RF es (t.put (bB t n (t.probeStart h)).j).2 (h,Sz b)=BR at *
  have tail:∀t2:Rz,oF t2 (BR.map (·.1))->t2.mask=t.mask->t2.led=l->t2.plain=false->QZ (model prog w) A (do
    storeSet a BR t2
    if (!false && t2.tooFull)=true then setRelay a (Td (es.size+1))
    return true) Q E s:=fun t2 I2 vn km uK=>by
   refine QJ (wpAny_storeSet_of ho hd ?_ (by rw [nP,Sr];omega));have hg:=th ho hd BR t2
   by_cases hf:t2.tooFull=true
   ·simp only [hf,TZ,Bool.and_self,if_true]
    refine QJ ?_;rw [<- nP];refine xj (s:={ s with heap:=s.heap.update a (Xw BR t2) }) hg hex rfl I2 (by omega) (by omega) ML km uK fun h' es' Bz hS' hp'=>QL ?_
    exact h2 jm h' es' ((RW s.heap a (Xw BR t2)).trans Bz) hS' (hp'.trans xk)
   ·have hf':t2.tooFull=false:=by simpa using hf
    simp only [hf',TZ,UB,QW,if_false];refine QL ?_;have hnf:BR.size * 5<t2.mask * 3:=by
     have z:¬ (t2.fill * 5≥t2.mask * 3):=by simpa [SetTable.tooFull] using hf'
     have y:t2.fill=BR.size:=by
      have q:=I2.sz;rw [R9] at q;simp only [Xr,I2.tb.nd];simp [q]
     omega
    exact h2 jm _ BR (RW _ _ _) ⟨_,_,t2,hg,hex,rfl,I2,hnf,by omega,by rw [vn];exact Av,ML,km,fun _=>uK⟩ xk
  cases hpl:(t.put (bB t n (t.probeStart h)).j).1.plain with
  | false =>
   simp only [QW,if_false];refine QJ (QL ?_);simp only [if_true];exact tail _ I1 rfl hL hpl
  | true =>
   simp only [if_true];refine QJ (OS _ ?_);simp only [QW,if_false];exact tail _ (I1.plain false) rfl hL rfl
 ·refine .inr ⟨⟨i,hl,hi,e1,e2⟩,?_⟩
  exact QL (h1 ⟨i,hi,e1,e2⟩)
end
end bN
namespace PySem
theorem typeCall_set_1 (v:QN):checkTypeCall "set" ⟨[v],[]⟩=pure ():=by kernel_rfl
theorem newCall_set_1 (v:QN):checkBuiltinCall "set.__new__" ⟨[.type "set",v],[]⟩=pure ():=by kernel_rfl
theorem sub_list_set:isSubtype (.type "list") (.type "set")=pure false:=by rw [isSubtype_type];kernel_rfl
theorem sub_list_frozenset:isSubtype (.type "list") (.type "frozenset")=pure false:=by rw [isSubtype_type];kernel_rfl
section
variable {prog:RY} {w:SU} {A:RH} {E:QN->QP->Prop} {s:QP}
theorem mj {v:QN} {Q₁:QN->QP->Prop}
  (h:Q₁ (.ref s.heap.objs.size) { s with heap:=s.heap.push { cls:=.type "set",dict:=none,data:=.set #[] 0 (.fresh 0 0 (!w.params.followText "set-order")) } }) :
  codeAny (model prog w) A (.call (.builtin "set.__new__") ⟨[.type "set",v],[]⟩) (wants Q₁ E) s:=by
 refine codeAny_of_tree ?_;show QZ _ A.in1 (do checkBuiltinCall "set.__new__" ⟨[.type "set",v],[]⟩;again (.builtin "set.__new__" ⟨[.type "set",v],[]⟩)) _ _ s
 refine QJ (wpAny_of_eq (newCall_set_1 v) (QL ⟨plainId_quiet F.plain_set_new _,codeAny_builtin F.entry_set_new ?_⟩));rw [RN F.plain_set_new _];unfold Builtin.«set.__new__» Builtin.Frozenset.newClass;have DV:=sub_set_self
 obtain⟨hp,g,d,tk,os⟩:=s;dsimp only
 wp_walk
 refine wpAny_askSetting (QL ?_);dsimp only;simp only [newObj];refine QJ (wpAny_alloc (QL ?_));exact QL h
theorem jA {M:Model} {self v:QN} {Q:Unit->QP->Prop} (hT:s.TypeIs self "set") (hQ:Q () s) :
  QZ M A (checkBuiltinCall "set.__init__" ⟨[self,v],[]⟩) Q E s:=by
 simp only [checkBuiltinCall,kind_set_init,split_set_init,sig_set_init];refine QJ (wpAny_isInstance hT sub_set_self ?_);simp only [SV,QW,if_false];unfold Bind.checkArgs;dsimp only;refine QJ (m:=Bind.printed "set" true _ _) (PyProof.Rows.printed_name (by decide) ?_);refine QJ (m:=Bind.printed "*" false _ _) (PyProof.Rows.printed_star (self:=self) rfl hT fun short=>?_);have OU:(WK == WL)=false:=by decide
 have hn:(if (WK == WL)=true then [self,v].length else [self,v].length - 1)=1:=by simp [OU]
 rw [hn];simp only [UP];have hc:Bind.check ⟨.positional,"set","*",.self,[⟨"iterable",.posOnly,false⟩]⟩ "set" short 1 []=pure ():=by
  have hp:(VG == VG)=true:=by decide
  simp [Bind.check,Bind.checkCount,Bind.isPositional,hp]
 rw [hc];exact QL hQ
set_option maxHeartbeats 1000000 in
theorem rJ {l:Rm} {items:Array QN} {Q:QN->QP->Prop} (hl:s.heap.IsList l items)
  {led:Bool} (Kj:led = !w.params.followText "set-order") (h:codeAny (model prog w) A.in1.in1 (.builtin "set.update.loop" ⟨[.ref s.heap.objs.size,.ref (s.heap.objs.size+1)],[]⟩) (wants (fun _ s'=>Q (.ref s.heap.objs.size) s') E)
   { s with heap:=(s.heap.push { cls:=.type "set",dict:=none,data:=.set #[] 0 (.fresh 0 0 led) }).push { cls:=.type "list_iterator",data:=.fields #[.ref l,.int 0 0] } }) :
  QZ (model prog w) A (call (.type "set") [.ref l]) Q E s:=by
 obtain⟨c,tl,OV⟩:=Uh.mro;have hmade:=Uh.made
 have DV:=Uh.sub;refine wpAny_call (codeAny_of_tree ?_);show QZ _ _ (callAny (.type "set") _) _ _ _
 refine QL ⟨Code.quiet_builtin _ (by decide +kernel),codeAny_builtin F.entry_type_call ?_⟩;rw [Around.under_plain (weight_type_call_type "set" [.ref l] []) rfl];have h1:=Uh.notType
 have h2:=Uh.canCreate;have DI:=typeCall_set_1 (.ref l)
 repeat (any_goals (first|assumption|wp_step))
 refine codeAny_mono (mj (E:=E) (Q₁:=fun obj s₁=>obj=.ref s.heap.objs.size/\s₁={ s with heap:=s.heap.push { cls:=.type "set",dict:=none,data:=.set #[] 0 (.fresh 0 0 led) } }) ⟨rfl,by rw [Kj]⟩) fun r s₁ hr=>?_
 cases r with
 | error e=>exact hr
 | ok fl =>
  cases fl with
  | ret obj =>
   obtain⟨rfl,rfl⟩:=hr;have hS:(s.heap.push { cls:=.type "set",dict:=none,data:=.set #[] 0 (.fresh 0 0 led) }).get? s.heap.objs.size=some { cls:=.type "set",dict:=none,data:=.set #[] 0 (.fresh 0 0 led) }:=QM _ rfl
   have hT:UY { s with heap:=s.heap.push { cls:=.type "set",dict:=none,data:=.set #[] 0 (.fresh 0 0 led) } } (.ref s.heap.objs.size) "set":=⟨_,hS,rfl⟩;have QA:=Uh.init.lookup
   have QB:=Uh.init.bind (.ref s.heap.objs.size)
   repeat (any_goals (first|assumption|wp_step))
   refine codeAny_mono (codeAny_call_builtin (R:=wants (fun r s₂=>r=.none/\Q (.ref s.heap.objs.size) s₂) E) Uh.init.plain F.entry_set_init (jA hT ?_)) fun r₂ s₂ Kk=>?_
   ·unfold Builtin.«set.__init__» noKeywords
    have hl':(s.heap.push { cls:=.type "set",dict:=none,data:=.set #[] 0 (.fresh 0 0 led) }).IsList l items:=by obtain⟨o,ho,r⟩:=hl;exact⟨o,QK _ ho,r⟩
    have QC:UY { s with heap:=s.heap.push { cls:=.type "set",dict:=none,data:=.set #[] 0 (.fresh 0 0 led) } } (.ref l) "list":=hl'.typeIs;have QD:=sub_list_set
    have mx:=sub_list_frozenset;have JL:∀{A':RH} {Q':QN->QP->Prop} {E':QN->QP->Prop},Q' (.ref (s.heap.objs.size+1)) { s with heap:=(s.heap.push { cls:=.type "set",dict:=none,data:=.set #[] 0 (.fresh 0 0 led) }).push { cls:=.type "list_iterator",data:=.fields #[.ref l,.int 0 0] } } ->
      QZ (model prog w) A' (pyIter (.ref l)) Q' E' { s with heap:=s.heap.push { cls:=.type "set",dict:=none,data:=.set #[] 0 (.fresh 0 0 led) } }:=fun {A' Q' E'} hq=>by
     have e:(s.heap.push { cls:=.type "set",dict:=none,data:=.set #[] 0 (.fresh 0 0 led) }).objs.size=s.heap.objs.size+1:=R1 _ _;refine wpAny_pyIter_list (s:={ s with heap:=s.heap.push { cls:=.type "set",dict:=none,data:=.set #[] 0 (.fresh 0 0 led) } }) hl' ?_;show Q' (.ref (s.heap.push _).objs.size) _
     rw [e];exact hq
    wp_walk using JL
    refine codeAny_mono h fun r3 s3 Kl=>?_
    cases r3 with
    | error e=>exact Kl
    | ok f3 =>
     cases f3 with
     | ret v3=>exact QL (QL ⟨rfl,Kl⟩)
     | _=>exact Kl.elim
   ·cases r₂ with
    | error e=>exact Kk
    | ok OW =>
     cases OW with
     | ret r =>
      obtain⟨rfl,hq⟩:=Kk
      repeat (any_goals (first|assumption|wp_step))
     | _=>exact Kk.elim
  | _=>exact hr.elim
end
end PySem
namespace PySem.F
theorem aU:Slot "set_iterator" "__next__" "set_iterator.__next__" :=
 .of (owner:="set_iterator") (n:="__next__") (by rw [typeLookup_type,builtinLookup_eq_fast];kernel_rfl) (by decide +kernel) (by decide +kernel) (by decide +kernel)
  (by first|exact .inl (by decide +kernel)|exact .inr (by decide +kernel)) (by rw [isSubtype_type];kernel_rfl)
theorem fO:entryFor table "set_iterator.__next__"=some Builtin.«set_iterator.__next__»:=entryFor_of_tree (by kernel_rfl)
theorem fX (a:QN):argsOk "set_iterator.__next__" ⟨[a],[]⟩:=by unfold argsOk;kernel_rfl
theorem fY:Slot "set_iterator" "__iter__" "set_iterator.__iter__" :=
 .of (owner:="set_iterator") (n:="__iter__") (by rw [typeLookup_type,builtinLookup_eq_fast];kernel_rfl) (by decide +kernel) (by decide +kernel) (by decide +kernel)
  (by first|exact .inl (by decide +kernel)|exact .inr (by decide +kernel)) (by rw [isSubtype_type];kernel_rfl)
theorem jB:entryFor table "set_iterator.__iter__"=some Builtin.«dict_keyiterator.__iter__» :=
 entryFor_alias (id':="dict_keyiterator.__iter__") (by kernel_rfl) rfl (by decide +kernel) (by kernel_rfl)
theorem kU (a:QN):argsOk "set_iterator.__iter__" ⟨[a],[]⟩:=by unfold argsOk;kernel_rfl
theorem jC:entryFor table "set.__iter__"=some Builtin.«frozenset.__iter__» :=
 entryFor_alias (id':="frozenset.__iter__") (by kernel_rfl) rfl (by decide +kernel) (by kernel_rfl)
end PySem.F
namespace bN
open PySem
theorem kW {α:Type} {l:List α} {i:Nat} (h:i<l.length):(l[i]::l.eraseIdx i).Perm l:=by
 rw [List.eraseIdx_eq_take_drop_succ];have e:l=l.take i++l[i]::l.drop (i+1):=by rw [List.getElem_cons_drop,Ug]
 conv=>rhs;rw [e]
 exact List.perm_middle.symm
theorem tj {α:Type} (next:Nat->Nat):∀(n k:Nat) (left:List α) (out:Array α),left.length=n->(pickOrder.go next n k left out).toList.Perm (out.toList++left)
 | 0,k,left,out,h=>by
  have:left=[]:=Wn.mp h;subst this;rw [RP];exact .refl _
 | n+1,k,left,out,h=>by
  have hi:next k % left.length<left.length:=Ve _ (by omega)
  unfold pickOrder.go;rw [Ge9 hi];dsimp only;refine(tj next n (k+1) _ _ (by rw [VH hi];omega)).trans ?_;rw [V8,Rn];exact(kW hi).append_left _
theorem mP {α:Type} (next:Nat->Nat) (xs:Array α):(pickOrder next xs).toList.Perm xs.toList:=by
 have z:=tj next xs.size 0 xs.toList #[] (by simp)
 simpa [pickOrder] using z
section
variable {M:Model} {A:RH} {E:QN->QP->Prop} {s:QP}
theorem uO {src:Source} {n:Nat} {Q:Nat->QP->Prop} (hn:n≠0) (h:∀k dr,k<n->Q k { s with drawn:=dr }):QZ M A (choose src n) Q E s :=
 fun _ _ _=>⟨hn,h _ _ (Ve _ (Nat.pos_of_ne_zero hn))⟩
theorem tm {α:Type}:∀(n:Nat) (xs:List α) (s:QP) (Q:List α->QP->Prop),xs.length=n->(∀l dr,l.Perm xs->Q l { s with drawn:=dr })->QZ M A (drawOrder n xs) Q E s
 | 0,xs,s,Q,h,hQ=>by
  have:xs=[]:=Wn.mp h;subst this;exact QL (hQ [] s.drawn (.refl _))
 | n+1,[],s,Q,h,hQ=>by cases h
 | n+1,x::xs,s,Q,h,hQ=>by
  unfold drawOrder;refine QJ (uO (by simp) fun k dr hk=>?_);rw [Ge9 hk];dsimp only;refine QJ (tm n _ _ _ (by rw [VH hk];omega) fun l OX hp=>QL ?_);exact hQ _ OX ((hp.cons _).trans (kW hk))
end
noncomputable def dO (h:Heap) (I a:Rm) (first:QN) (i n ep:Nat):Prop:=∃o,h.get? I=some o/\o.cls=.type "set_iterator"/\o.data=.fields #[first,.int i 0,.ref a,.int n 0,.int ep 0]
noncomputable def cB (h:Heap) (a:Rm) (es:Array (Int × QN)) (ep:Nat) (t:Rz):Prop:=∃o,h.get? a=some o/\o.cls=.type "set"/\o.data=.set es ep t
noncomputable def Way (w:SU) (h:Heap) (a:Rm) (es:Array (Int × QN)) (ep:Nat) (t:Rz) (pl:List Nat) (T:Rm) (ord:List QN) (i:Nat) (first:QN):Prop :=
 (w.params.followText "set-order"=true/\first=.int 0 0/\ord=(pickOrder (w.params.setOrder a ep) es).toList.map (·.2)) \/
 (w.params.followText "set-order"=false/\first=.ref T/\h.IsTuple T (pl.map fun(j:Nat)=>XJ j 0).toArray/\pl.Perm (RV es.size)/\ord=pl.map fun j=>(es.getD j (0,.none)).2) \/
 (w.params.followText "set-order"=false/\t.led=true/\es.size<=1/\ord=es.toList.map (·.2)/\((i=0/\first=.int 0 0)\/(i=1/\∃k:Nat,first=.int k 0/\∀j,j<t.place.size->t.place.getD j 0<k)))
section
variable {prog:RY} {w:SU} {A:RH} {E:QN->QP->Prop} {s:QP} {I a T:Rm} {first:QN} {i ep:Nat} {es:Array (Int × QN)} {t:Rz} {pl:List Nat} {ord:List QN}
theorem dO.typeIs {h:Heap} {n:Nat} (x:dO s.heap I a first i n ep):s.TypeIs (.ref I) "set_iterator":=let ⟨o,ho,hc,_⟩:=x;⟨o,ho,hc⟩
theorem ib {Q:Array (Int × QN)->QP->Prop} (hS:cB s.heap a es ep t) (hf:t.fits es.size=true) (h:Q es s):QZ (model prog w) A (setEntries a) Q E s:=by
 obtain⟨o,ho,_,hd⟩:=hS;unfold setEntries;exact QJ (RL ho hd hf (QL h))
theorem cU {Q:Bool->QP->Prop} (h:Q (w.params.followText "set-order") s):QZ (model prog w) A setsByText Q E s:=by
 unfold setsByText;exact QJ (wpAny_askSetting (QL h))
theorem nU (W:Way w s.heap a es ep t pl T ord i first):ord.length=es.size:=by
 rcases W with⟨_,_,e⟩|⟨_,_,_,p,e⟩|⟨_,_,_,e,_⟩
 ·rw [e,Lm9,(mP _ es).length_eq,Sm]
 ·rw [e,Lm9,p.length_eq,Uq]
 ·rw [e,Lm9,Sm]
theorem range_getD (es:Array (Int × QN)):∀n,n<=es.size->(RV n).map (fun j=>(es.getD j (0,.none)).2)=(es.toList.take n).map (·.2):=fun n hn=>by
 apply Sx (by simp;omega);intro j h1 h2;have hj:j<es.size:=by simp at h1;omega
 simp [hj]
theorem xl (W:Way w s.heap a es ep t pl T ord i first):ord.Perm (es.toList.map (·.2)):=by
 rcases W with⟨_,_,e⟩|⟨_,_,_,p,e⟩|⟨_,_,_,e,_⟩
 ·rw [e];exact(mP _ es).map _
 ·rw [e]
  have z:=p.map (fun j=>(es.getD j (0,RG)).2);rw [range_getD es es.size (Q3 _),RX (by simp)] at z;exact z
 ·rw [e]
theorem D7 {h:Heap} {n:Nat} (x:dO h I a first i n ep):dO (h.update I (UW (·.setIfInBounds 1 (rawInt ((i:Int)+1))))) I a first (i+1) n ep:=by
 obtain⟨o,ho,hc,hd⟩:=x;exact⟨_,RA _ ho (Uc (SG hd _)),(Vc ..).trans hc,by rw [SG hd];simp [rawInt]⟩
theorem D8 {h:Heap} {n:Nat} {f:QN} (x:dO h I a first i n ep):dO (h.update I (UW (·.setIfInBounds 0 f))) I a f i n ep:=by
 obtain⟨o,ho,hc,hd⟩:=x;exact⟨_,RA _ ho (Uc (SG hd _)),(Vc ..).trans hc,by rw [SG hd];simp⟩
theorem D9 {n:Nat} {Q:Unit->QP->Prop} (x:dO s.heap I a first i n ep) (h:Q () { s with heap:=s.heap.update I (UW (·.setIfInBounds 1 (rawInt ((i:Int)+1)))) }):QZ (model prog w) A (setField (.ref I) 1 (rawInt ((i:Int)+1))) Q E s:=by
 obtain⟨o,ho,hc,hd⟩:=x;exact wpAny_setField ho hd (by simp) h
theorem Ea {n:Nat} {f:QN} {Q:Unit->QP->Prop} (x:dO s.heap I a first i n ep) (h:Q () { s with heap:=s.heap.update I (UW (·.setIfInBounds 0 f)) }):QZ (model prog w) A (setField (.ref I) 0 f) Q E s:=by
 obtain⟨o,ho,hc,hd⟩:=x;exact wpAny_setField ho hd (by simp) h
set_option maxHeartbeats 1000000 in
theorem next_item {Q:Option QN->QP->Prop} (pG:oF t (es.map (·.1))) (GV:I≠T) (hIa:I≠a) (hit:dO s.heap I a first i es.size ep) (hS:cB s.heap a es ep t) (W:Way w s.heap a es ep t pl T ord i first) (hi:i<es.size)
  (hQ:∀v h' xm,ord[i]?=some v->dO h' I a xm (i+1) es.size ep->Way w h' a es ep t pl T ord (i+1) xm->Ss I s.heap h'->Q (some v) { s with heap:=h' }):QZ (model prog w) A (pyNext (.ref I)) Q E s:=by
 obtain⟨o,ho,hc,hd⟩:=id hit;have hf:=pG.fits
 have lY:=nU W;unfold pyNext;refine QJ (wpAny_attempt (wpAny_callSpecial?_slot (name:=Sa "__next__") (dO.typeIs (h:=s.heap) hit) F.aU
  (wpAny_call_entry F.aU (dO.typeIs (h:=s.heap) hit) F.fO ?_ (F.fX _))))
 unfold Builtin.«set_iterator.__next__»;refine QJ (wpAny_of_eq (a:=(Sz I,[])) rfl ?_);dsimp only;refine QJ (wpAny_fieldsOf ho hd ?_);dsimp only;refine QJ (ib hS hf ?_);rw [if_neg (by simp)];rcases id W with⟨hT,rfl,e⟩|⟨hT,rfl,hp,pp,e⟩|⟨hT,hl,h1,e,hw⟩
 ·dsimp only
  unfold setNext;obtain⟨oa,tq,_,qA⟩:=id hS;refine QJ (QJ (RL tq qA hf ?_));dsimp only;refine QJ (cU ?_);rw [hT];simp only [if_true,R7,bne_self_eq_false,QW,if_false];unfold setWalk;refine QJ (QJ (RL tq qA hf ?_));dsimp only;refine QJ (cU ?_);rw [hT];simp only [if_true];refine QJ (wpAny_askSetting (QL ?_));refine QL ?_;have MM:i<ord.length:=by omega
  have hx:(pickOrder (w.params.setOrder a ep) es)[i]?.map (·.2)=some ord[i]:=by
   rw [<- Vk,<- Rd,<- e,Ge9 MM]
  obtain⟨y,hy,OY⟩:=QY.mp hx;have hy':(pickOrder ({ program:=(model prog w).prog,params:=(model prog w).w.params:Setting }.params.setOrder a ep) es)[i]?=some y:=hy
  rw [hy'];dsimp only [Option.map];refine QJ (Ea hit ?_);have h0:=D8 (f:=rawInt ((XK 0:Nat):Int)) hit
  refine QJ (D9 (s:={ s with heap:=_ }) h0 ?_);refine QL ⟨_,rfl,QL (hQ _ _ _ (by rw [Ge9 MM,OY]) (D7 h0) (.inl ⟨hT,rfl,e⟩) ((RW ..).trans (RW ..)))⟩
 ·dsimp only
  obtain⟨oT,GW,_,nT,Km⟩:=id hp;refine QJ (wpAny_seqItems GW Km ?_);dsimp only;have hpl:i<pl.length:=by rw [pp.length_eq,Uq];exact hi
  have hj:pl[i]<es.size:=R2.mp (pp.mem_iff.mp (Q6 hpl));have hx:(pl.map fun(j:Nat)=>XJ j 0).toArray[((i:Nat):Int).toNat]?=some (XJ (pl[i]:Nat) 0):=by simp [hpl]
  rw [hx];dsimp only;refine QJ ?_;unfold setNextDrawn;obtain⟨oa,tq,_,qA⟩:=id hS;refine QJ (RL tq qA hf ?_);dsimp only;simp only [R7,bne_self_eq_false,QW,if_false,QU hj];refine QL ?_;refine QJ (D9 hit ?_);refine QL ⟨_,rfl,QL (hQ _ _ _ ?_ (D7 hit) (.inr (.inl ⟨hT,rfl,⟨oT,(Rh _ _ GV).trans GW,?_⟩,pp,e⟩)) (RW ..))⟩
  ·subst e
   simp [hpl,hj]
  ·obtain⟨QE,GX,r⟩:=hp
   rw [GW] at GX;cases GX;exact r
 ·have OZ:i=0:=by omega
  subst OZ;rcases hw with⟨_,rfl⟩|⟨z,_⟩
  ·dsimp only
   unfold setNext;obtain⟨oa,tq,_,qA⟩:=id hS;refine QJ (QJ (RL tq qA hf ?_));dsimp only;refine QJ (cU ?_);rw [hT];have Af:t.place.size=es.size:=by have z:=pG.sz;rw [R9] at z;exact z
   have hb:RZ t.place (XK 0)=0:=by
    have z:=fw t.place pG.tb.ri (XK 0);rcases Nat.eq_zero_or_pos (RZ t.place (XK 0)) with q|q
    ·exact q
    ·exact absurd (z.2.1 0 q) (Nat.not_lt_zero _)
   refine wpAny_ite_split (fun hab=>absurd hab (by decide)) fun _=>?_
   refine wpAny_ite_split (fun hab=>absurd hab (show ¬ ((!t.plain && decide (es.size > 1))=true) from by simp;omega)) fun _=>?_
   refine QJ (show QZ (model prog w) A.in1 (if (!t.led && !es.isEmpty)=true then unsupported "set:maker-not-led" else pure ()) _ _ s from ?_);rw [hl];refine wpAny_ite_split (fun hab=>absurd hab (by simp)) fun _=>?_
   refine QL (QL ?_);rw [hb,QU (by omega),QU (by omega)];dsimp only;refine QJ (Ea hit ?_);have h0:=D8 (f:=rawInt ((t.place[0]'(by omega)+1:Nat):Int)) hit
   refine QJ (D9 (s:={ s with heap:=_ }) h0 ?_);refine QL ⟨_,rfl,QL (hQ _ _ _ ?_ (D7 h0) (.inr (.inr ⟨hT,hl,h1,e,.inr ⟨rfl,_,rfl,fun j hj=>?_⟩⟩)) ((RW ..).trans (RW ..)))⟩
   ·subst e
    simp [hi]
   ·have:j=0:=by omega
    subst this;simp [hj]
  ·cases z
set_option maxHeartbeats 1000000 in
theorem next_end {Q:Option QN->QP->Prop} (hh:A.handled=none) (pG:oF t (es.map (·.1))) (hit:dO s.heap I a first es.size es.size ep) (hS:cB s.heap a es ep t) (W:Way w s.heap a es ep t pl T ord es.size first)
  (hQ:∀h',Xg I s.heap h'->Q none { s with heap:=h' }):QZ (model prog w) A (pyNext (.ref I)) Q E s:=by
 obtain⟨o,ho,hc,hd⟩:=id hit;have hf:=pG.fits
 have lY:=nU W;have fin:∀(h1:Heap) (f:QN),dO h1 I a f es.size es.size ep->Xg I s.heap h1->QZ (model prog w) A.in1 (do
   setField (Sz I) 2 RG
   let e <- newExc (Ur "StopIteration") []
   raiseNew e:Sem PySem.Fin) (fun fin s'=>∃v,fin=PySem.Fin.done (Flow.ret v)/\QZ (model prog w) A (pure (some v)) Q E s') (fun e s'=>QZ (model prog w) A (do
     let b <- isInstance e (Ur "StopIteration")
     if b=true then pure none else throw e) Q E s') { s with heap:=h1 }:=fun h1 f O3 hex=>by
  obtain⟨o1,IS,QF,O4⟩:=O3;refine QJ (wpAny_setField (s:={ s with heap:=h1 }) IS O4 (by simp) ?_);refine QJ ?_;simp only [newExc,newTuple];refine QJ (wpAny_newObj_type ?_ (by size_fits));refine QJ (m:=firstArgMember _ _) (wpAny_of_eq (a:=RG) (by first|rfl|(simp only [firstArgMember];rfl)) ?_);refine wpAny_newObj_type ?_ (by size_fits);simp only [raiseNew];refine QJ (wpAny_handled ?_);rw [show A.in1.handled=none from hh];refine QJ (QL (wpAny_throw ?_));refine QJ (wpAny_isInstance (T:="StopIteration") (b:=true) ⟨_,QM _ rfl,rfl⟩ isSubtype_stop ?_);refine QL (hQ _ fun b ob hb Ko=>?_);exact QK _ (QK _ ((Rh _ _ (Sy hb)).trans (hex b ob hb Ko)))
 unfold pyNext;refine QJ (wpAny_attempt (wpAny_callSpecial?_slot (name:=Sa "__next__") (dO.typeIs (h:=s.heap) hit) F.aU
  (wpAny_call_entry F.aU (dO.typeIs (h:=s.heap) hit) F.fO ?_ (F.fX _))))
 unfold Builtin.«set_iterator.__next__»;refine QJ (wpAny_of_eq (a:=(Sz I,[])) rfl ?_);dsimp only;refine QJ (wpAny_fieldsOf ho hd ?_);dsimp only;refine QJ (ib hS hf ?_);rw [if_neg (by simp)];rcases id W with⟨hT,rfl,e⟩|⟨hT,rfl,hp,pp,e⟩|⟨hT,hl,h1,e,hw⟩
 ·dsimp only
  unfold setNext;obtain⟨oa,tq,_,qA⟩:=id hS;refine QJ (QJ (RL tq qA hf ?_));dsimp only;refine QJ (cU ?_);rw [hT];simp only [if_true,R7,bne_self_eq_false,QW,if_false];unfold setWalk;refine QJ (QJ (RL tq qA hf ?_));dsimp only;refine QJ (cU ?_);rw [hT];simp only [if_true];refine QJ (wpAny_askSetting (QL ?_));refine QL ?_;have hy:(pickOrder (w.params.setOrder a ep) es)[es.size]?=none:=by
   rw [VI];rw [e,Lm9,Sm] at lY;omega
  have hy':(pickOrder ({ program:=(model prog w).prog,params:=(model prog w).w.params:Setting }.params.setOrder a ep) es)[es.size]?=none:=hy;rw [hy'];exact fin s.heap _ hit fun _ _ _ z=>z
 ·dsimp only
  obtain⟨oT,GW,_,nT,Km⟩:=id hp;refine QJ (wpAny_seqItems GW Km ?_);dsimp only;have hpl:pl.length=es.size:=by rw [pp.length_eq,Uq]
  have hx:(pl.map fun(j:Nat)=>XJ j 0).toArray[((es.size:Nat):Int).toNat]?=none:=by simp [hpl]
  rw [hx];dsimp only;refine QJ (Ea hit ?_);exact fin _ _ (D8 hit) fun b ob hb Ko=>(Rh _ _ (Sy hb)).trans Ko
 ·have Af:t.place.size=es.size:=by have z:=pG.sz;rw [R9] at z;exact z
  have hk:∃k:Nat,first=.int k 0/\es.size<=RZ t.place k:=by
   rcases hw with⟨z,rfl⟩|⟨z,k,rfl,hk⟩
   ·exact⟨0,rfl,by omega⟩
   ·refine⟨k,rfl,?_⟩
    have q:=fw t.place pG.tb.ri k;rcases WS (RZ t.place k) es.size with y|y
    ·have:=q.2.2 (RZ t.place k) (Q3 _) (by omega)
     have:=hk (RZ t.place k) (by omega);omega
    ·exact y
  obtain⟨k,rfl,hb⟩:=hk;dsimp only;unfold setNext;obtain⟨oa,tq,_,qA⟩:=id hS;refine QJ (QJ (RL tq qA hf ?_));dsimp only;refine QJ (cU ?_);rw [hT];refine wpAny_ite_split (fun hab=>absurd hab (by decide)) fun _=>?_
  refine wpAny_ite_split (fun hab=>absurd hab (show ¬ ((!t.plain && decide (es.size > 1))=true) from by simp;omega)) fun _=>?_
  refine QJ (show QZ (model prog w) A.in1 (if (!t.led && !es.isEmpty)=true then unsupported "set:maker-not-led" else pure ()) _ _ s from ?_);rw [hl];refine wpAny_ite_split (fun hab=>absurd hab (by simp)) fun _=>?_
  refine QL (QL ?_);rw [R7,VI.mpr hb];exact fin s.heap _ hit fun _ _ _ z=>z
theorem Aw {n:Nat} {Q:QN->QP->Prop} (hit:dO s.heap I a first i n ep) (h:Q (.ref I) s):QZ (model prog w) A (pyIter (.ref I)) Q E s:=by
 refine wpAny_pyIter_slot (dO.typeIs (h:=s.heap) hit) F.fY (wpAny_call_entry F.fY (dO.typeIs (h:=s.heap) hit) F.jB ?_ (F.kU _));show QZ _ _ (ret (.ref I)) _ _ s
 exact QL ⟨_,rfl,"set_iterator",_,dO.typeIs (h:=s.heap) hit,F.aU.lookup,h⟩
theorem uP (hh:A.handled=none) (pG:oF t (es.map (·.1))) (GV:I≠T) (hIa:I≠a) :
  Walks prog w A I [I,a,T] [I] es.size (fun i v=>ord[i]?=some v) (fun i h=>∃first,dO h I a first i es.size ep/\cB h a es ep t/\Way w h a es ep t pl T ord i first) where
 sub:=fun b hb=>by simp at hb;simp [hb]
 frame:=fun i h h' ⟨first,⟨o,ho,r⟩,⟨o2,wR,r2⟩,W⟩ hk=>⟨first,⟨o,hk I (by simp) o ho,r⟩,⟨o2,hk a (by simp) o2 wR,r2⟩,by
  rcases W with z|⟨z1,z2,⟨o3,O5,r3⟩,z4⟩|z
  ·exact .inl z
  ·exact .inr (.inl ⟨z1,z2,⟨o3,hk T (by simp) o3 O5,r3⟩,z4⟩)
  ·exact .inr (.inr z)⟩
 item:=fun i s Q E hi ⟨first,hit,hS,W⟩ hQ=>next_item pG GV hIa hit hS W hi fun v h' f' hv hit' W' sb=>by
  obtain⟨o2,wR,r2⟩:=hS;exact hQ v h' s.toks hv ⟨f',hit',⟨o2,(sb.2 a (Sy hIa)).trans wR,r2⟩,W'⟩ fun b o hb ho=>(sb.2 b (by simpa using hb)).trans ho
 done:=fun s Q E ⟨first,hit,hS,W⟩ hQ=>next_end hh pG hit hS W fun h' hx=>hQ h' s.toks fun b o hb ho=>hx b o (by simpa using hb) ho
 self:=fun i s Q E ⟨first,hit,hS,W⟩ h=>Aw hit h
end
section
variable {prog:RY} {w:SU} {A:RH} {E:QN->QP->Prop} {s:QP} {a:Rm} {ep:Nat} {es:Array (Int × QN)} {t:Rz}
theorem cB.push {h:Heap} (x:cB h a es ep t) (o:Obj):cB (h.push o) a es ep t:=let ⟨o',ho,r⟩:=x;⟨o',QK _ ho,r⟩
set_option maxHeartbeats 1000000 in
theorem Ax {Q:QN->QP->Prop} (pG:oF t (es.map (·.1))) (hS:cB s.heap a es ep t) (hl:t.led = !w.params.followText "set-order") (hp:1<=es.size->t.plain=false) (hsz:es.size<1000)
  (hQ:∀I T first pl ord h' dr,s.heap.objs.size<=I->s.heap.objs.size<=T->I≠T->(∀b o,s.heap.get? b=some o->h'.get? b=some o)->dO h' I a first 0 es.size ep->cB h' a es ep t->Way w h' a es ep t pl T ord 0 first->Q (.ref I) { s with heap:=h',drawn:=dr }) :
  QZ (model prog w) A (pyIter (.ref a)) Q E s:=by
 obtain⟨o,ho,hc,hd⟩:=id hS;have hT:s.TypeIs (.ref a) "set":=⟨o,ho,hc⟩
 have hf:=pG.fits;refine wpAny_pyIter_slot hT F.slot_set_iter (wpAny_call_entry F.slot_set_iter hT F.jC ?_ (F.args_set_iter_1 _));unfold Builtin.«frozenset.__iter__»;refine QJ (wpAny_of_eq (a:=a) rfl ?_);dsimp only;refine QJ (m:=Builtin.Frozenset.sizeOf a) (show QZ _ _ (setEntries a >>= fun es=>pure es.size) _ _ _ from QJ (ib hS hf (QL ?_)));refine QJ (m:=setDrawn a) (show QZ _ _ (setState a >>= fun q=>setsByText >>= fun b=>pure (!b && (!q.2.2.plain && decide (q.1.size > 1)))) _ _ _ from QJ (RL ho hd hf (QJ (cU (QL ?_)))));have MN:∀{A':RH} {E':QN->QP->Prop} {s':QP} {Q':Nat->QP->Prop},cB s'.heap a es ep t->Q' ep s'->QZ (model prog w) A' (setEpoch a) Q' E' s':=fun {A' E' s' Q'} ⟨o',ho',_,hd'⟩ q=>by
  unfold setEpoch;exact QJ (RL ho' hd' hf (QL q))
 by_cases hdr:(!w.params.followText "set-order" && (!t.plain && decide (es.size > 1)))=true
 ·rw [if_pos hdr]
  have h1:w.params.followText "set-order"=false:=by simpa using (Bool.and_eq_true_iff.mp hdr).1
  refine QJ (tm _ _ _ _ (Uq) fun l dr hp=>?_);have km:l.length=es.size:=by rw [hp.length_eq,Uq]
  refine QJ (wpAny_newObj_type (T:="tuple") (data:=.seq (l.map fun(i:Nat)=>rawInt i).toArray) ?_ (by show(l.map fun(i:Nat)=>rawInt i).toArray.size<=Q9;simp only [So,Lm9];rw [Sr];omega));refine QJ (MN (cB.push hS _) ?_);refine QJ (wpAny_newObj_type ?_ (by size_fits));refine QL ⟨_,rfl,"set_iterator",_,⟨_,QM _ rfl,rfl⟩,F.aU.lookup,?_⟩;have e1:∀o,(s.heap.push o).objs.size=s.heap.objs.size+1:=fun o=>R1 _ _
  refine hQ _ s.heap.objs.size (.ref s.heap.objs.size) l _ _ dr (by rw [e1];omega) (Q3 _) (by rw [e1];omega) (fun b o q=>QK _ (QK _ q)) ⟨_,QM _ rfl,rfl,rfl⟩ (cB.push (cB.push hS _) _) (.inr (.inl ⟨h1,rfl,⟨_,QK _ (QM _ rfl),rfl,0,rfl⟩,hp,rfl⟩))
 ·rw [if_neg hdr]
  refine QJ (QL ?_);refine QJ (MN hS ?_);refine QJ (wpAny_newObj_type ?_ (by size_fits));refine QL ⟨_,rfl,"set_iterator",_,⟨_,QM _ rfl,rfl⟩,F.aU.lookup,?_⟩;cases h1:w.params.followText "set-order" with
  | true=>exact hQ s.heap.objs.size (s.heap.objs.size+1) (.int 0 0) [] _ _ s.drawn (Q3 _) (by omega) (by omega) (fun b o q=>QK _ q) ⟨_,QM _ rfl,rfl,rfl⟩ (cB.push hS _) (.inl ⟨h1,rfl,rfl⟩)
  | false =>
   rw [h1] at hl hdr;refine hQ s.heap.objs.size (s.heap.objs.size+1) (.int 0 0) [] _ _ s.drawn (Q3 _) (by omega) (by omega) (fun b o q=>QK _ q) ⟨_,QM _ rfl,rfl,rfl⟩ (cB.push hS _) (.inr (.inr ⟨h1,hl,?_,rfl,.inl ⟨rfl,rfl⟩⟩));rcases WS 1 es.size with q|q
   ·exfalso
    apply hdr;rw [hp (by omega)];simp [q]
   ·exact q
end
end bN
namespace bN
open PySem PySem.W PyProof.Rows
section
variable {prog:RY} {w:SU} {A:RH} {E:QN->QP->Prop} {s:QP} {a:Rm} {ep:Nat} {es:Array (Int × QN)} {t:Rz}
theorem xn {Q:Bool->QP->Prop} (hT:s.TypeIs (.ref a) "set") (h:Q false s):QZ (model prog w) A (Ui (.ref a)) Q E s:=by
 unfold Ui;refine QJ (wpAny_specialOf hT PySem.F.slot_set_len.lookup ?_);generalize IA:("set.__len__":String)=O6
 wp_delta
 rw [show splitId O6=some ("set","__len__") from by subst IA;decide +kernel];subst IA;refine QJ (wpAny_isInstance (T:="set") (b:=true) hT (by rw [isSubtype_type];kernel_rfl) ?_);refine wpAny_ite_split (fun hab=>absurd hab (by decide)) (fun _=>?_);refine wpAny_ite_split (fun _=>?_) (fun hab=>absurd (by decide +kernel) hab);refine QJ (wpAny_typeOf hT ?_);exact QL h
theorem xo {ord:List QN} {acc:Array QN} (h:ItemsOf (fun i v=>ord[i]?=some v) acc ord.length):acc.toList=ord:=by
 apply V1 fun j=>?_
 rcases WS j acc.size with hj|hj
 ·have e:acc[j]?=some acc[j]:=QU hj
  rw [h.2 j _ e,Vk,e]
 ·rw [SY (by simpa using hj),SY (by have:=h.1;omega)]
theorem rK {R:Result->QP->Prop} (hh:A.handled=none) (pG:oF t (es.map (·.1))) (hA:cB s.heap a es ep t) (hl:t.led = !w.params.followText "set-order") (hp:1<=es.size->t.plain=false) (hsz:es.size<1000)
  (S:Rm) (MO:S≠a) (res:QN) (c₀:Nat) (hS:s.heap.get? S=some { cls:=.type "list",data:=.seq #[] c₀ })
  (hR:∀h' tk dr dq c',(∀b o,b≠S->s.heap.get? b=some o->h'.get? b=some o)->h'.get? S=some { cls:=.type "list",dict:=none,data:=.seq dq c',slots:=#[] }->dq.toList.Perm (es.toList.map (·.2))->R (.ok (.ret res)) { s with heap:=h',toks:=tk,drawn:=dr }) :
  QZ (model prog w) A.in1 (SJ (.ref S) (.ref a) res)
   (fun fin s'=>match fin with|.done f=>R (.ok f) s'|.again c'=>c'.quiet=true/\codeAny (model prog w) A c' R s') (fun e s'=>R (.error e) s') s:=by
 have hn:es.size<=Q9:=by rw [Sr];omega
 have GY:s.TypeIs (.ref a) "set":=let ⟨o,ho,hc,_⟩:=hA;⟨o,ho,hc⟩
 unfold SJ;refine QJ (wpAny_typeOf (T:="set") GY ?_);have h1:TM (.ref S) (.ref a)=false:=by simp [TM,MO]
 have h2:(Ur "set" == Ur "list")=false:=by decide
 have h3:(Ur "set" == Ur "tuple")=false:=by decide
 simp only [h1,h2,h3,UX,QW,if_false];refine QJ (Ax pG hA hl hp hsz fun I T first pl ord h1 dr hI hT GV kp hit Kp W=>?_);have MP:=Q1 hS
 have Kq:S≠I:=Rc (Rp MP hI);have O7:S≠T:=Rc (Rp MP hT)
 have hIa:I≠a:=by
  obtain⟨o,ho,_⟩:=hA;exact RU (Rp (Q1 ho) hI)
 have MQ:=uP (prog:=prog) (A:=A.in1) (w:=w) (ep:=ep) (pl:=pl) (ord:=ord) (T:=T) hh pG GV hIa;have lY:=nU (s:={ s with heap:=h1 }) W
 have O8:=xl (s:={ s with heap:=h1 }) W;have hS1:=kp S _ hS
 have MR:S∉[I,a,T]:=by simp only [Q5,UI,or_false,not_or];exact⟨Kq,MO,O7⟩
 have key:∀(h:Heap) (c₁ tk:Nat),(∃first,dO h I a first 0 es.size ep/\cB h a es ep t/\Way w h a es ep t pl T ord 0 first)->(∀b o,b≠S->s.heap.get? b=some o->h.get? b=some o) ->
   h.get? S=some { cls:=.type "list",data:=.seq #[] c₁ }->codeAny (model prog w) A (.builtin "list.extend.loop" ⟨[.ref S,.ref I,res],[]⟩) R { s with heap:=h,toks:=tk,drawn:=dr }:=by
  intro h c₁ tk CZ hk Kr;refine codeAny_extend_loopS MQ.toS hn S MR res es.size 0 _ #[] c₁ rfl (Rf _) CZ Kr (ItemsOf.nil _) fun s' dq c' hm hS' ku=>?_
  rw [Moved.eq_with hm];refine hR s'.heap s'.toks dr dq c' (fun b o hb e=>hm.heap b o (fun hmem=>?_) (hk b o hb e)) hS' ?_
  ·rcases Q5.mp hmem with e'|hmem
   ·exact hb e'
   ·exact absurd (Q1 e) (by rw [Rr.mp hmem];exact Nat.not_lt.mpr hI)
  ·rw [<- lY] at ku
   rw [xo ku];exact O8
 refine QJ (wpAny_holding (xn (s:={ s with heap:=h1,drawn:=dr }) (let ⟨o,ho,hc,_⟩:=Kp;⟨o,ho,hc⟩) ?_));refine wpAny_ite_split (fun _=>?_) (fun _=>QL ⟨plainId_quiet TC _,key _ c₀ s.toks ⟨first,hit,Kp,W⟩ (fun b o _ e=>kp b o e) hS1⟩);refine QJ (wpAny_rule ?_);refine QJ ?_;show QZ _ _ (updateSeq S (·.push .none) >>= fun _=>updateSeq S (·.pop)) _ _ _
 refine QJ (wpAny_updateSeq (s:={ s with heap:=h1,drawn:=dr }) hS1 rfl ?_);have MS:=RA (RJ (·.push RG)) hS1 rfl
 refine wpAny_updateSeq (s:={ s with heap:=h1.update S (RJ (·.push RG)),drawn:=dr }) (hz:=by seq_fits) MS rfl ?_;have O9:=RA (RJ (·.pop)) MS rfl
 refine QL ⟨plainId_quiet TC _,key _ _ s.toks ?_ (fun b o hb e=>?_) O9⟩
 ·refine MQ.frame 0 _ _ ⟨first,hit,Kp,W⟩ fun b hb o e=>?_
  have MT:b≠S:=fun h=>MR (h ▸ hb)
  exact(Rh _ _ (Sy MT)).trans ((Rh _ _ (Sy MT)).trans e)
 ·exact(Rh _ _ (Sy hb)).trans ((Rh _ _ (Sy hb)).trans (kp b o e))
theorem pH {R:List QN->QP->Prop} {ld:Bool} (hh:A.handled=none) (hS:SI ld s.heap a es) (hl:ld = !w.params.followText "set-order") (hsz:es.size<1000)
  (h:∀h' tk dr acc,(∀b o,s.heap.get? b=some o->h'.get? b=some o)->acc.Perm (es.toList.map (·.2))->R acc { s with heap:=h',toks:=tk,drawn:=dr }):QZ (model prog w) A (collect (.ref a)) R E s:=by
 obtain⟨oa,ep,t,tq,hex,qA,pG,_,_,_,_,hL,hP⟩:=hS;have hA:cB s.heap a es ep t:=⟨oa,tq,hex.1,qA⟩
 unfold collect;refine QJ (wpAny_runValue (codeAny_builtin entry_proto_collect' ?_));rw [RN PySem.F.plain_proto_collect _];show QZ _ A.in1 (newList [] >>= fun l=>again (.builtin "list.__iadd__" ⟨[l,.ref a],[]⟩)) _ _ s
 refine QJ (wpAny_newObj_type ?_);refine QL ⟨plainId_quiet Wo _,codeAny_builtin entry_list_iadd' ?_⟩;rw [RN Wo _];have Kr:(s.heap.push { cls:=.type "list",data:=.seq ([]:List QN).toArray }).get? s.heap.objs.size=some { cls:=.type "list",data:=.seq #[] }:=QM _ rfl
 show QZ _ A.in1 (SJ (.ref s.heap.objs.size) (.ref a) (.ref s.heap.objs.size)) _ _ _;have key:=rK (A:=A) (w:=w) (prog:=prog) (s:={ s with heap:=s.heap.push { cls:=.type "list",data:=.seq ([]:List QN).toArray } })
  (R:=fun(q:Result) (s':QP)=>∃(h':Heap) (tk:Nat) (dr:_) (dq:Array QN) (c':Nat),q=.ok (.ret (.ref s.heap.objs.size))/\s'={ s with heap:=h',toks:=tk,drawn:=dr } /\
   (∀b o,s.heap.get? b=some o->h'.get? b=some o)/\h'.get? s.heap.objs.size=some { cls:=.type "list",dict:=none,data:=.seq dq c',slots:=#[] }/\dq.toList.Perm (es.toList.map (·.2)))
  hh pG (cB.push hA _) (hL.trans hl) hP hsz s.heap.objs.size (RU (Q1 tq)) (.ref s.heap.objs.size) 0 Kr
  (fun h' tk dr dq c' hk hS' ku=>⟨h',tk,dr,dq,c',rfl,rfl,fun b o e=>hk b o (Rc (Q1 e)) (QK _ e),hS',ku⟩)
 refine wpAny_mono key (fun fin s' x=>?_) fun e s' x=>?_
 ·cases fin with
  | done f =>
   obtain⟨h',tk,dr,dq,c',e,rfl,hk,hS',ku⟩:=x;cases e;show QZ _ A (load s.heap.objs.size >>= _) _ _ _
   refine QJ (wpAny_load hS' ?_);exact QL (h h' tk dr _ hk ku)
  | again c₁ =>
   refine⟨x.1,codeAny_mono x.2 fun q s₂ y=>?_⟩;obtain⟨h',tk,dr,dq,c',rfl,rfl,hk,hS',ku⟩:=y;show QZ _ A (load s.heap.objs.size >>= _) _ _ _
   refine QJ (wpAny_load hS' ?_);exact QL (h h' tk dr _ hk ku)
 ·obtain⟨_,_,_,_,_,e',_⟩:=x
  cases e'
end
end bN
namespace M
open PySem PySem.Spec PyProof.Rows L2 bN
section
variable {P:RY} {w:SU} {A:RH} {E:QN->QP->Prop}
theorem bY.xp:∀(n m:Nat) {A:RH} {E:QN->QP->Prop} {s:QP} {t:T} {u:QN},kd n t=true->n<=m->bY s.heap t u->QZ (model P w) A (ofAClassStatement m u) (fun b s'=>b=false/\s'=s) E s
 | 0,_,_,_,_,t,_,hk,_,_=>(IL hk).elim
 | n+1,m,A,E,s,t,u,hk,hm,k=>by
  cases k with
  | bl=>cases hk
  | int i t=>cases m with
   | zero=>omega
   | succ m=>exact QL ⟨rfl,rfl⟩
  | str z t=>cases m with
   | zero=>omega
   | succ m=>exact QL ⟨rfl,rfl⟩
  | tup ho hc hd hl hi =>
   rename_i a o its nn xs;have GY:s.TypeIs (.ref a) "tuple":=⟨o,ho,hc⟩
   obtain⟨m,rfl⟩:∃k,m=k+1:=⟨m - 1,by omega⟩;unfold ofAClassStatement;refine QJ (wpAny_typeOf GY ?_);dsimp only;simp only [beq_self_eq_true,if_true];refine QJ (QL ?_);simp only [SV,QW,if_false];refine QJ (wpAny_seqItems ho hd ?_);dsimp only;refine QJ ?_;show QZ _ _ (forIn its _ _) _ _ s
   rw [<- T7];refine wpAny_forIn_list _ (fun rest r s'=>r.1=none/\s'=s/\∀v∈rest,v∈its) _ ?_ ?_ _ _ ⟨rfl,rfl,fun v hv=>by simpa using hv⟩
   ·rintro v rest r s' ⟨hr,rfl,hall⟩
    obtain⟨i,vc,rfl⟩:=TF (hall v QR);have ex:=Ge9 (l:=xs) (i:=i) (by omega)
    refine QJ (wpAny_mono (bY.xp n m (iJ hk ex) (by omega) (hi i _ _ ex (QU vc))) (fun b zU hb=>?_) fun _ _ e=>e);obtain⟨rfl,rfl⟩:=hb;simp only [QW,if_false];exact QL ⟨rfl,rfl,fun u fS=>hall u (QV _ fS)⟩
   ·rintro⟨r1,r2⟩ s' ⟨hr,rfl,_⟩
    simp only at hr;subst hr;exact QL ⟨rfl,rfl⟩
theorem bY.GZ {s:QP} {t:T} {u:QN} {Q:Bool->QP->Prop} (hh:qB t=true) (k:bY s.heap t u) (q:Q false s):QZ (model P w) A (hashByValue 8 u) Q E s:=by
 unfold qB at hh;split at hh
 ·rename_i z r
  cases k with
  | tup ho hc hd hl hi =>
   rename_i a o its nn;have GY:s.TypeIs (.ref a) "tuple":=⟨o,ho,hc⟩
   unfold hashByValue;refine QJ (wpAny_specialOf GY T6.lookup ?_);show QZ _ _ (seqItems? (.ref a) >>= _) _ _ s
   refine QJ (wpAny_seqItems ho hd ?_);refine QJ ?_;have uG:0<its.size:=by simp at hl;omega
   have k0:=hi 0 (.str z) its[0] rfl (QU uG);obtain⟨l⟩:=its;cases l with
   | nil=>simp at uG
   | cons v vs =>
    have k0:bY s.heap (.str z) v:=k0;cases k0;show QZ _ _ (forIn (Vj _ _::vs).toArray _ _) _ _ s
    rw [<- T7];simp only [TH];exact QJ (QJ (QL (by simp only [TZ,if_true];exact QL (QL (QL q)))))
 ·cases hh
theorem bY.seen {n:Nat} (hn:n<=8) {s:QP} {t:T} {u:QN} {Q:Bool->QP->Prop} (hk:kd n t=true) (k:bY s.heap t u) :
  ∀(stored:List QN),(∀v∈stored,∃b,kd n b=true/\bY s.heap b v)->Q false s->QZ (model P w) A (searchCouldBeSeen u stored) Q E s:=by
 intro stored CZ q;unfold searchCouldBeSeen;refine QJ ?_;refine wpAny_forIn_list _ (fun rest rr s'=>s'=s/\rr.1=none/\∀v∈rest,v∈stored) _ ?_ ?_ _ _ ⟨rfl,rfl,fun v hv=>hv⟩
 ·rintro v rest rr s' ⟨rfl,hr,hm⟩
  obtain⟨b,hb,k2⟩:=CZ v (hm v (by simp));dsimp only;split;all_goals split
  any_goals exact QL ⟨rfl,rfl,fun z hz=>hm z (by simp [hz])⟩
  all_goals
   refine QJ (wpAny_mono (bY.quiet n 8 (kr n hk) hn k) (fun b zU hb=>?_) fun _ _ e=>e);obtain⟨rfl,rfl⟩:=hb;simp only [SV,QW,if_false];refine QJ (wpAny_mono (bY.quiet n 8 (kr n hb) hn k2) (fun b zU hb=>?_) fun _ _ e=>e);obtain⟨rfl,rfl⟩:=hb;simp only [SV,QW,if_false];refine QJ (wpAny_mono (bY.xp n 8 hk hn k) (fun b zU hb=>?_) fun _ _ e=>e);obtain⟨rfl,rfl⟩:=hb;simp only [QW,if_false];refine QJ (wpAny_mono (bY.xp n 8 hb hn k2) (fun b zU hb=>?_) fun _ _ e=>e);obtain⟨rfl,rfl⟩:=hb;simp only [QW,if_false];exact QL ⟨rfl,rfl,fun z hz=>hm z (by simp [hz])⟩
 ·rintro⟨r1,r2⟩ s' ⟨rfl,hr,_⟩
  simp only at hr;subst hr;exact QL q
end
noncomputable def FF (w:SU) (g:G) (es:List (Int × QN)) (tr:List T):Prop:=Paired (fun(e:Int × QN) (t:T)=>e.1=hT w t/\kd 6 t=true/\RT g none t e.2) es tr
theorem jt {α β:Type} {F:α->β->Prop} {l l':List α} (p:l'.Perm l):∀{m:List β},Paired F l m->∃m',m'.Perm m/\Paired F l' m':=by
 induction p with
 | nil=>intro m h;exact⟨m,.refl _,h⟩
 | cons x _ ih =>
  intro m h;cases h with
  | cons r t=>obtain⟨m',h1,h2⟩:=ih t;exact⟨_::m',h1.cons _,.cons r h2⟩
 | swap x y l =>
  intro m h;cases h with
  | cons r t=>cases t with
   | cons r2 t2=>exact⟨_,.swap _ _ _,.cons r2 (.cons r t2)⟩
 | trans _ _ Pa Pb =>
  intro m h;obtain⟨m1,a1,a2⟩:=Pb h;obtain⟨m2,b1,b2⟩:=Pa a2;exact⟨m2,b1.trans a1,b2⟩
theorem Ay {l:Bool} {h h':Heap} {a b:Rm} {es:Array (Int × QN)} (S:bN.SI l h a es) (hs:Ss b h h') (hab:a≠b):bN.SI l h' a es:=by
 obtain⟨o,ep,t,ho,r⟩:=S;exact⟨o,ep,t,(hs.2 a hab).trans ho,r⟩
theorem mQ:entryFor table "set.update.loop"=some Builtin.«set.update.loop»:=entryFor_of_tree (by kernel_rfl)
theorem jc:plainId "set.update.loop"=true:=by decide +kernel
theorem xq {h:Heap} {a:Rm} {ld:Bool} (e:h.get? a=some { cls:=.type "set",dict:=none,data:=.set #[] 0 (.fresh 0 0 ld) }):bN.SI ld h a #[] :=
 ⟨_,0,.fresh 0 0 ld,e,⟨rfl,rfl,rfl⟩,rfl,⟨⟨fun i j _ hj=>absurd hj (by simp [UG]),rfl⟩,by simp [UG],fun i hi=>absurd hi (by simp [UG]),by simp,⟨3,rfl⟩,fun i hi=>absurd hi (by simp)⟩,by simp [UG],by simp [UG],by simp [UG],fun i hi=>absurd hi (by simp),rfl,fun z=>absurd z (by simp)⟩
section
variable {X:Cx} {pins:aJ} {φ:Fr} {g:G} {L L':aa} {s:QP} {a it l:Rm} {es:Array (Int × QN)} {tr ts:List T} {its:List QN} {t:T} {u:QN} {ld:Bool}
theorem Ks {A:RH} {E:QN->QP->Prop} {Q:Bool->QP->Prop} (I:Inv X pins φ g L s) (hu:A.units+10<cLine) (hS:bN.SI ld s.heap a es) (hE:FF X.w g es.toList tr) (hs:es.size<1000) (hd:tr.Nodup) (hk:kd 6 t=true) (hh:qB t=true) (r:RT g none t u)
  (hQ:∀b h' tk es' vo,Ss a s.heap h'\/h'=s.heap->bN.SI ld h' a es'->FF X.w g es'.toList vo->vo.Nodup->vo.length<=tr.length+1->(∀x,x∈vo↔x=t\/x∈tr)->Q b { s with heap:=h',toks:=tk }):QZ (model X.prog X.w) A (setAdd a u) Q E s:=by
 classical
 have hl:=Q0 hE;have hl':es.size=tr.length:=by simpa using hl
 have k:=I.Fy 6 hk r;unfold setAdd;refine wpAny_holding (QJ ?_);refine bY.hash 6 (kr 6 hk) (by omega) k ?_;generalize s.toks+dr t=tk;have I':Inv X pins φ g L { s with toks:=tk }:=I.tok tk
 have k':=I'.Fy 6 hk r;have at_:∀i (hi:i<es.size),(es[i]).1=hT X.w (tr[i]'(by omega))/\kd 6 (tr[i]'(by omega))=true/\RT g none (tr[i]'(by omega)) (es[i]).2:=fun i hi=>by
  have z:=qI hE i _ _ (Ge9 (by simpa using hi)) (Ge9 (by omega));simpa using z
 refine D5 (s:={ s with toks:=tk }) (eqv:=fun i=>decide (tr.getD i (.int 0)=t)) hS ?_ hs (fun i hi _=>?_) (fun Q' q=>bY.seen (n:=6) (by omega) hk k' _ (fun v hv=>?_) q) (fun Q' q=>bY.GZ hh k' q) (fun hex=>?_) fun jm h' es' Bz hS' hp=>?_
 ·unfold qB at hh
  split at hh
  ·cases r with
   | tup=>exact⟨_,rfl⟩
  ·cases hh
 ·obtain⟨_,h2,h3⟩:=at_ i hi
  have e:tr.getD i (.int 0)=tr[i]'(by omega):=by simp [show i<tr.length by omega]
  show S5 A _ _ _ (decide (tr.getD i (.int 0)=t));rw [e];exact bY.eq 6 h2 hk (by omega) (I'.Fy 6 h2 h3) k'
 ·obtain⟨e,he,rfl⟩:=Rj.mp hv
  rw [Uv] at he;have he:=(Array.mem_filter.mp he).1
  obtain⟨i,hi,rfl⟩:=TF he;obtain⟨_,h2,h3⟩:=at_ i hi
  exact⟨_,h2,I'.Fy 6 h2 h3⟩
 ·obtain⟨i,hi,e1,e2⟩:=hex
  have e:tr.getD i (.int 0)=tr[i]'(by omega):=by simp [show i<tr.length by omega]
  have e2:=of_decide_eq_true e2;rw [e] at e2;refine hQ false s.heap tk es tr (.inr rfl) hS hE hd (SO _) fun x=>⟨.inr,fun z=>?_⟩
  rcases z with rfl|z
  ·rw [<- e2];exact Q6 _
  ·exact z
 ·have hE':FF X.w g ((hT X.w t,u)::es.toList) (t::tr):=.cons ⟨rfl,hk,r⟩ hE
  obtain⟨vo,p1,p2⟩:=jt hp hE';have Kt:t∉tr:=fun hb=>by
   obtain⟨i,hi,e⟩:=Ux.mp hb;have hi':i<es.size:=by omega
   refine jm ⟨i,hi',?_,?_⟩
   ·rw [(at_ i hi').1,e]
   ·exact decide_eq_true (by simp [hi,e])
  exact hQ true h' tk es' vo (.inl Bz) hS' p2 (p1.nodup_iff.mpr (Sf.mpr ⟨Kt,hd⟩)) (UL p1.length_eq) fun x=>by rw [p1.mem_iff,Q5]
theorem xr {A:RH} {R:Result->QP->Prop} (I:Inv X pins φ g L s) (hu:A.units+12<cLine) (hh:A.handled=none) (hl:s.heap.IsList l its.toArray) (rv:bM g ts its) (hlen:its.length<900) (Pc:∀t∈ts,kd 6 t=true/\qB t=true)
  (ha:s.heap.objs.size<=a) (Ku:s.heap.objs.size<=it) (hne:a≠it)
  (fin:∀h' tk es tr,(∀b o,s.heap.get? b=some o->h'.get? b=some o)->bN.SI ld h' a es->FF X.w g es.toList tr->tr.Nodup->(∀x,x∈tr↔x∈ts)->R (.ok (.ret .none)) { s with heap:=h',toks:=tk }) :
  ∀(k i:Nat) (h':Heap) (tk:Nat) (es:Array (Int × QN)) (tr:List T),its.length - i=k->i<=its.length->(∀b o,s.heap.get? b=some o->h'.get? b=some o)->h'.IsListIter it l i->bN.SI ld h' a es->FF X.w g es.toList tr->tr.Nodup->tr.length<=i->(∀x,x∈tr↔x∈ts.take i) ->
   QZ (model X.prog X.w) A.in1 (Builtin.«set.update.loop» ⟨[.ref a,.ref it],[]⟩) (fun fin s'=>match fin with|.done f=>R (.ok f) s'|.again c'=>c'.quiet=true/\codeAny (model X.prog X.w) A c' R s') (fun e s'=>R (.error e) s') { s with heap:=h',toks:=tk }:=by
 have kH:=Q0 rv;have lt:∀b o,s.heap.get? b=some o->b≠a/\b≠it:=fun b o q =>
  ⟨Rc (Rp (Q1 q) ha),Rc (Rp (Q1 q) Ku)⟩
 obtain⟨ol,lY,MU⟩:=id hl;intro k;induction k with
 | zero =>
  intro i h' tk es tr hk hi kp hit hS hE hd hn hp;obtain rfl:i=its.length:=by omega
  unfold Builtin.«set.update.loop»;dsimp only;refine QJ (wpAny_pyNext_list_end (s:={ s with heap:=h',toks:=tk }) (A:=A.in1) hh hit (show h'.IsList l its.toArray from⟨ol,kp _ _ lY,MU⟩) (by simp) fun h2 G1=>?_);dsimp only;refine QL ?_;refine fin h2 tk es tr (fun b o q=>G1 b o (lt b o q).2 (kp b o q)) ?_ hE hd (by rw [<- kH,List.take_length] at hp;exact hp);obtain⟨o,ep,t,ho,r⟩:=hS;exact⟨o,ep,t,G1 a o hne ho,r⟩
 | succ k ih =>
  intro i h' tk es tr hk hi kp hit hS hE hd hn hp;have vc:i<its.length:=by omega
  have vQ:i<ts.length:=by omega
  unfold Builtin.«set.update.loop»;dsimp only;refine QJ (wpAny_pyNext_list_item (s:={ s with heap:=h',toks:=tk }) (x:=its[i]) hit (show h'.IsList l its.toArray from⟨ol,kp _ _ lY,MU⟩) (by simp [vc]) fun h1 BU Bz=>?_);dsimp only;have Kv:∀b o,s.heap.get? b=some o->h1.get? b=some o:=fun b o q=>(Bz.2 b (lt b o q).2).trans (kp b o q)
  have I1:Inv X pins φ g L { s with heap:=h1,toks:=tk }:=I.kept Kv;have hS1:bN.SI ld h1 a es:=Ay hS Bz hne
  have ht:=Pc _ (Q6 vQ);have G2:es.size<1000:=by
   have z1:=Q0 hE;have z4:es.toList.length=es.size:=by simp
   omega
  refine QJ (wpAny_holding (Ks (s:={ s with heap:=h1,toks:=tk }) I1 (by show A.units+1+10<cLine;omega) hS1 hE G2 hd ht.1 ht.2 (qI rv i _ _ (Ge9 vQ) (Ge9 vc)) fun bb h2 G3 es' vo MV hS2 Pd hd2 By uK=>?_));have G4:∀b o,s.heap.get? b=some o->h2.get? b=some o:=fun b o q=>by
   rcases MV with Eb|rfl
   ·exact(Eb.2 b (lt b o q).1).trans (Kv b o q)
   ·exact Kv b o q
  have z6:h2.IsListIter it l (i+1):=by
   rcases MV with Eb|rfl
   ·obtain⟨o,ho,r⟩:=BU
    exact⟨o,(Eb.2 it (Sy hne)).trans ho,r⟩
   ·exact BU
  refine QL ?_;refine⟨plainId_quiet jc _,codeAny_builtin mQ ?_⟩;rw [RN jc _];have hmem:∀x,x∈vo↔x∈ts.take (i+1):=fun x=>by
   rw [uK,List.take_succ_eq_append_getElem vQ,RB,Rr,hp,or_comm]
  exact ih (i+1) h2 G3 es' vo (by omega) (by omega) G4 z6 hS2 Pd hd2 (by omega) hmem
theorem jQ {x:T}:∀{l:List T},x∈td l↔x∈l
 | []=>Iff.rfl
 | y::l=>by
  unfold td;split
  ·rename_i h
   rw [jQ,Q5];exact⟨.inr,fun z=>z.elim (fun e=>by rw [e];exact h) id⟩
  ·rw [Q5,Q5,jQ]
theorem rL:∀l:List T,(td l).Nodup
 | []=>.nil
 | y::l=>by
  unfold td;split
  ·exact rL l
  ·rename_i h
   exact Sf.mpr ⟨fun z=>h (jQ.mp z),rL l⟩
theorem tu:∀l:List T,(td l).length<=l.length
 | []=>Q3 _
 | y::l=>by
  have:=tu l;unfold td;split <;> simp <;> omega
theorem pJ {α:Type}:∀{a b:List α},a.Nodup->b.Nodup->(∀x,x∈a↔x∈b)->a.Perm b:=fun ha hb h=>(VF ha hb).mpr h
theorem Inv.IY (I:Inv X pins φ g L s) (dr:_):Inv X pins φ g L { s with drawn:=dr }:=⟨I.ok,I.os,I.bare,I.base,I.loc,I.cell,I.free,I.oN,I.pin,I.hok,I.len,I.rel,I.gB,I.gm,I.gw⟩
theorem tw:∀{es:List (Int × QN)} {tr:List T},FF w' g es tr->bM g tr (es.map (·.2))
 | _,_,.nil=>.nil
 | _,_,.cons h t=>.cons h.2.2 (tw t)
theorem pK:∀{us:List QN} {tr:List T},bM g tr us->Paired (fun u t=>RT g none t u) us tr
 | _,_,.nil=>.nil
 | _,_,.cons h t=>.cons h (pK t)
theorem pL:∀{us:List QN} {tr:List T},Paired (fun u t=>RT g none t u) us tr->bM g tr us
 | _,_,.nil=>.nil
 | _,_,.cons h t=>.cons h (pL t)
theorem rM {a b:List T} (h:eI b) (hl:a.length<=b.length) (hm:∀x∈a,x∈b):eI a:=by
 obtain⟨h1,h2,h3,h4⟩:=h;refine⟨by omega,QO.mpr fun x hx=>QO.mp h2 x (hm x hx),?_,QO.mpr fun x hx=>QO.mpr fun y hy=>QO.mp (QO.mp h4 x (hm x hx)) y (hm y hy)⟩;rcases h3 with h3|h3
 ·exact .inl (QO.mpr fun x hx=>QO.mp h3 x (hm x hx))
 ·exact .inr (QO.mpr fun x hx=>QO.mp h3 x (hm x hx))
theorem Kw {x y:T} (hx:kd 8 x=true) (hy:kd 8 y=true) (h:ltN 8 y x=false):x=y\/ltN 8 x y=true:=by
 by_cases e:x=y
 ·exact .inl e
 ·rcases jL 8 _ _ hx hy e with q|q
  ·exact .inr q
  ·rw [h] at q;cases q
theorem BV (x:T) (hx:kd 8 x=true):∀l:List T,(∀y∈l,kd 8 y=true)->l6 l->∃l',l'.Perm (x::l)/\l6 l'
 | [],_,_=>⟨[x],.refl _,by simp [l6]⟩
 | y::l,hk,hr=>by
  have hy:=hk y QR;have hr':=U2.mp hr
  cases e:ltN 8 y x with
  | false =>
   refine⟨x::y::l,.refl _,U2.mpr ⟨fun z hz=>?_,hr⟩⟩;rcases Q5.mp hz with rfl|hz
   ·exact e
   ·have h1:=hr'.1 z hz
    rcases Kw hx hy e with rfl|q
    ·exact h1
    ·cases e2:ltN 8 z x with
     | false=>rfl
     | true=>rw [eU 8 _ _ _ e2 q] at h1;cases h1
  | true =>
   obtain⟨l',p,r⟩:=BV x hx l (fun z hz=>hk z (QV _ hz)) hr'.2;refine⟨y::l',(p.cons y).trans (.swap _ _ _),U2.mpr ⟨fun z hz=>?_,r⟩⟩;rcases Q5.mp (p.mem_iff.mp hz) with rfl|hz
   ·cases e2:ltN 8 z y with
    | false=>rfl
    | true=>have:=eU 8 _ _ _ e e2;rw [nK] at this;cases this
   ·exact hr'.1 z hz
theorem BW:∀l:List T,(∀y∈l,kd 8 y=true)->∃l',l'.Perm l/\l6 l'
 | [],_=>⟨[],.refl _,Xx⟩
 | x::l,h=>by
  obtain⟨l1,p1,r1⟩:=BW l fun y hy=>h y (QV _ hy)
  obtain⟨l2,p2,r2⟩:=BV x (h x QR) l1 (fun y hy=>h y (QV _ (p1.mem_iff.mp hy))) r1;exact⟨l2,p2.trans (p1.cons x),r2⟩
theorem xt {a b:List T} (hk:a.all (kd 8)=true) (p:a.Perm b):oC a=oC b:=by
 obtain⟨l',p',h⟩:=BW a (QO.mp hk);rw [ro hk p' h,ro (QO.mpr fun x hx=>QO.mp hk x (p.mem_iff.mpr hx)) (p'.trans p) h]
theorem xu {fz:Bool} {w:T} (hu:X.A.units+20<cLine) (I:Inv X pins φ g L s) (hl:s.heap.IsList l its.toArray) (rv:bM g ts its) (ok:eI ts) (h6:ts.all (kd 6)=true) (hS:ts.all qB=true) (h:fk fz (oC (td ts)) L=.ok w L') :
  QZ (model X.prog X.w) X.A (call (.type "set") [.ref l]) (fun u s'=>QZ (model X.prog X.w) X.A (call (.builtin "sorted") [u]) (EP X pins φ g w L') F0 s') F0 s:=by
 have hlen:=Q0 rv;have IQ:=ok.1
 refine rJ (led:=!X.w.params.followText "set-order") hl rfl ?_;refine codeAny_builtin mQ ?_;rw [RN jc _];have e1:(s.heap.push { cls:=.type "set",dict:=none,data:=.set #[] 0 (.fresh 0 0 (!X.w.params.followText "set-order")) }).get? s.heap.objs.size=some { cls:=.type "set",dict:=none,data:=.set #[] 0 (.fresh 0 0 (!X.w.params.followText "set-order")) }:=QM _ rfl
 have e2:(s.heap.push { cls:=.type "set",dict:=none,data:=.set #[] 0 (.fresh 0 0 (!X.w.params.followText "set-order")) }).objs.size=s.heap.objs.size+1:=R1 _ _;have e3:((s.heap.push { cls:=.type "set",dict:=none,data:=.set #[] 0 (.fresh 0 0 (!X.w.params.followText "set-order")) }).push { cls:=.type "list_iterator",data:=.fields #[.ref l,.int 0 0] }).get? (s.heap.objs.size+1)=some { cls:=.type "list_iterator",data:=.fields #[.ref l,.int 0 0] }:=by
  rw [<- e2];exact QM _ rfl
 refine xr (ld:=!X.w.params.followText "set-order") (l:=l) (ts:=ts) (its:=its) I (A:=X.A.in1.in1) (by show X.A.units+1+1+12<cLine;omega) I.ok.hd hl rv (by omega) (fun t ht=>⟨QO.mp h6 t ht,QO.mp hS t ht⟩) (Q3 _) (SO _) (Rc (SK _)) ?_ its.length 0 _ s.toks #[] [] (by omega) (Rf _) (fun b o z=>QK _ (QK _ z)) ⟨_,e3,rfl,rfl⟩ (xq (QK _ e1)) .nil .nil (Rf _) (fun x=>by simp);intro h' tk es tr kp Kq hE hnd hmem;have pn:tr.Perm (td ts):=pJ hnd (rL ts) fun x=>(hmem x).trans jQ.symm
 have nl:(td ts).length<=ts.length:=tu ts;have hsz:es.size<1000:=by
  have z1:=Q0 hE;have z2:=pn.length_eq
  have z4:es.toList.length=es.size:=by simp
  omega
 refine UD kind_sorted plain_sorted entry_sorted (args_sorted1 _) ?_;unfold Builtin.«sorted»;refine QJ (m:=checkCount "sorted" 1 1 _) (QL ?_);refine QJ (pH (A:=X.A.in1) (s:={ s with heap:=h',toks:=tk }) I.ok.hd Kq rfl hsz fun h2 G3 dr acc G4 pa=>?_);have I1:Inv X pins φ g L { s with heap:=h2,toks:=G3,drawn:=dr }:=(I.kept (t':=G3) fun b o q=>G4 b o (kp b o q)).IY dr
 obtain⟨vo,p1,p2⟩:=jt pa (pK (tw hE));have rr:=pL p2
 have hl':=Q0 rr;have km:=p1.length_eq
 have Kx:eI vo:=rM ok (by have:=pn.length_eq;omega) fun x hx=>(hmem x).mp (p1.mem_iff.mp hx)
 have es':oC vo=oC (td ts):=xt Kx.2.1 (p1.trans pn);refine QJ (wpAny_newList ?_ (by rw [Sr];have:=Kx.1;omega));have iD:=fun E'=>kE (s:={ s with heap:=h2,toks:=G3,drawn:=dr }) (E:=E') (A:=X.A.in1.in1) (by show X.A.units+1+1+8<cLine;omega) I1 rr Kx (by rw [es'];exact h)
 refine QJ (wpAny_holding (wpAny_call_entry slot_list_sort ⟨_,QM _ rfl,rfl⟩ entry_list_sort ?body (args_list_sort _)))
 case body =>
  refine wpAny_mono (iD _) (fun fin s' z=>?_) fun _ _ z=>z
  obtain⟨rfl,z⟩:=z;exact⟨_,rfl,QL ⟨_,rfl,z⟩⟩
end
end M
namespace M
open PySem PySem.Spec PyProof.Rows
section
variable {X:Cx} {pins:aJ} {φ:Fr} {g:G} {L L':aa} {s:QP} {o e:Expr} {m:SE} {fz:Bool} {p q ap pos:Pos}
theorem jR {t:List T} {L1:aa} (h:gz [m] φ L=.ok t L1):∃x,t=[x]/\m φ L=.ok x L1:=by
 obtain⟨x,L2,e1,h⟩:=R.of h;obtain⟨ts,L3,e2,h⟩:=R.of h;cases e2;cases h;exact⟨x,rfl,e1⟩
theorem xw (hu:X.A.units+20<cLine) (ho:PE X o m) (hb:okBase o=true) (iC:(ap.endLine == q.line)=true) (hg:Gl X "sorted") (hm:X.mg "sorted"=none) (hs:aF (.Call (.Attribute o "items" ap) [] [] q)=true):PE X (.Call (.Name "sorted" p) [.Call (.Attribute o "items" ap) [] [] q] [] pos) (af (jb fz) [m]):=fun {pins φ g L s w L'} I h=>by
 obtain⟨ts,L1,e1,h⟩:=R.of h;obtain⟨t,rfl,e2⟩:=jR e1;refine wpAny_Call_Name_kw (cy I hg hm (by kernel_rfl:bootBuiltins "sorted"=some (.builtin "sorted")) ?_ (by decide) (by decide));refine callWith_builtin1 ?_ (ai hs) (aL rfl);rw [ai hs];refine Tu ?_;refine wpAny_Call_method_late (base_ok hb) (nu rfl (by decide)) iC rfl (thn (ho I e2) fun v s1 ⟨g1,l1,I1,r1⟩=>?_);unfold jb at h;obtain⟨pp,vw⟩:=I1.view r1
 ·dsimp only at h
  split at h
  ·rename_i ks ev
   rw [ev] at vw;obtain⟨ok,h⟩:=ak h;obtain⟨a,od,es,ep,rfl,_,_,D⟩:=I1.ah vw;obtain⟨kvs,d1,d2,d3⟩:=BL D (pj ok.2.2.1);refine⟨"dict","dict.items",Ta,TR,Wq,D.typeIs,fun b e=>?_,?_⟩
   ·cases e;exact⟨od,D.ho,D.hx.2.1⟩
   ·refine U4 (aL rfl) (Vx ?_)
    refine call_meetsIn TR D.typeIs Wd (VZ _) (meets_dict_items (iK X.prog X.w) a D.hs) ⟨⟨kvs,Xs d1⟩,?_⟩;refine Te ?_;have kp:∀b o,s1.heap.get? b=some o->(s1.heap.push { cls:=.type "dict_items",data:=.fields #[.ref a] }).get? b=some o:=fun b o z=>QK _ z
    have I2:=I1.kept (t':=s1.toks) kp;have D2:bG X g1 { s1 with heap:=s1.heap.push { cls:=.type "dict_items",data:=.fields #[.ref a] } } ks a od es ep:=⟨kp _ _ D.ho,D.hx,D.hd,D.hz,D.hl,D.hn,D.hm,D.hs,D.hh,D.h1,D.h2⟩
    exact thn (rz hu I2 D2 (QM _ rfl) ok h) fun _ _ z=>z.le l1
  ·cases h
theorem tA {m1 m2:SE} {t:List T} {L1:aa} (h:gz [m1,m2] φ L=.ok t L1):∃x y,t=[x,y]:=by
 obtain⟨x,L2,e1,h⟩:=R.of h;obtain⟨ts,L3,e2,h⟩:=R.of h;obtain⟨y,rfl,e2⟩:=jR e2;cases h;exact⟨x,y,rfl⟩
theorem xx (hu:X.A.units+20<cLine) (ha:PA X [e] (gz [m])) (hg:Gl X "sorted") (hm:X.mg "sorted"=none) (uA:Gl X "set") (vn:X.mg "set"=none) (mx:[e].all aF=true) (hs:aF (.Call (.Name "set" ap) [e] [] q)=true):PE X (.Call (.Name "sorted" p) [.Call (.Name "set" ap) [e] [] q] [] pos) (af (kz fz) [m]):=fun {pins φ g L s w L'} I h=>by
 obtain⟨ts,L1,e1,h⟩:=R.of h;obtain⟨t,rfl,e2⟩:=jR e1;refine wpAny_Call_Name_kw (cy I hg hm (by kernel_rfl:bootBuiltins "sorted"=some (.builtin "sorted")) ?_ (by decide) (by decide));refine callWith_builtin1 ?_ (ai hs) (aL rfl);rw [ai hs];refine Tu ?_;refine wpAny_Call_Name_kw (cy I uA vn (by kernel_rfl:bootBuiltins "set"=some (.type "set")) ?_ (by decide) (by decide));refine callWith_type1 (thn (ha q I e1) fun us s1 ⟨g1,l1,I1,r1⟩=>?_) (ai (by simpa using mx)) (aL rfl);obtain⟨u,rfl,ru⟩:=bo r1;unfold kz at h;dsimp only at h;obtain⟨pp,v⟩:=I1.view ru;split at h
 ·rename_i ys ev
  rw [ev] at v;obtain⟨⟨ok,h6,hS⟩,h⟩:=ak h;obtain⟨a,its,n,rfl,e,rr,hz⟩:=I1.lst v;exact thn (xu hu I1 (by simpa using ae e) rr ok h6 hS h) fun _ _ z=>Te (thn z fun _ _ y=>y.le l1)
 ·cases h
theorem Az {a b:Expr} {ma mb:SE} (hu:X.A.units+20<cLine) (ha:PA X [a,b] (gz [ma,mb])) (hg:Gl X "dict") (hm:X.mg "dict"=none) (uA:Gl X "zip") (vn:X.mg "zip"=none) (mx:[a,b].all aF=true) (hs:aF (.Call (.Name "zip" ap) [a,b] [] q)=true):PE X (.Call (.Name "dict" p) [.Call (.Name "zip" ap) [a,b] [] q] [] pos) (af jr [ma,mb]):=fun {pins φ g L s w L'} I h=>by
 obtain⟨ts,L1,e1,h⟩:=R.of h;obtain⟨t1,t2,rfl⟩:=tA e1;have G5:aF a=true/\aF b=true:=by simpa using mx
 refine wpAny_Call_Name_kw (cy I hg hm (by kernel_rfl:bootBuiltins "dict"=some (.type "dict")) ?_ (by decide) (by decide));refine callWith_type1 ?_ (ai hs) (aL rfl);rw [ai hs];refine Tu ?_;refine wpAny_Call_Name_kw (cy I uA vn (by kernel_rfl:bootBuiltins "zip"=some (.type "zip")) ?_ (by decide) (by decide));refine callWith_type1 (thn (ha q I e1) fun us s1 ⟨g1,l1,I1,r1⟩=>?_) (ai G5.1) (aL (by simpa using G5.2));obtain⟨u1,u2,rfl,Ky,Kz⟩:=ft r1;unfold jr at h;dsimp only at h;obtain⟨p1,v1⟩:=I1.view Ky;obtain⟨p2,v2⟩:=I1.view Kz;split at h
 ·rename_i xs ys KA KC
  rw [KA] at v1;rw [KC] at v2;obtain⟨hle,h⟩:=ak h;obtain⟨a1,KD,n1,rfl,q1,KH,_⟩:=I1.lst v1;obtain⟨a2,nA,n2,rfl,q2,zT,_⟩:=I1.lst v2;exact thn (pA (b:=false) hu I1 (by simpa using ae q1) (show s1.heap.IsList a2 nA.toList.toArray from by simpa using ae q2) KH zT hle h) fun _ _ z=>Te (thn z fun _ _ y=>y.le l1)
 ·rename_i xs ys KA KC
  rw [KA] at v1;rw [KC] at v2;obtain⟨hle,h⟩:=ak h;obtain⟨a1,KD,n1,rfl,q1,KH,_⟩:=I1.lst v1;obtain⟨a2,nA,rfl,q2,zT,_⟩:=I1.tupP v2;exact thn (pA (b:=true) hu I1 (by simpa using ae q1) (show s1.heap.IsTuple a2 nA.toList.toArray from by rw [Array.toArray_toList];exact q2) KH zT hle h) fun _ _ z=>Te (thn z fun _ _ y=>y.le l1)
 ·cases h
end
section
variable {X:Cx}
theorem Ec:ur X "list.insert" uD:=fun I rx rv h=>by
 unfold uD at h;split at h
 ·split at h
  ·rename_i n i t _ ys ea
   obtain⟨⟨hz,h0,h1⟩,h⟩:=ak h;cases h;obtain⟨u1,u2,rfl,r1,ru⟩:=ft rv;obtain⟨k,rfl⟩:=r1.iI;obtain⟨a,its,cnt,rfl,e,rr,hl,_⟩:=I.mG rx ea;have bL:ys.length<Q9:=hz
   refine call_meets W2 ⟨_,e,rfl⟩ F.entry_list_insert (F.args_list_insert_3 _ _ _) (PySem.AutoSeq1.list_insert_list_int_val_1 a its cnt i k u2 (by unfold Builtin.List.listFitsIndex;simp;omega) (by omega)) ⟨e,?_⟩;refine I.lU ea rx e ?_ (by simp;omega);have e2:((its.extract 0 (min i.toNat its.size)).push u2++its.extract (min i.toNat its.size)).toList=its.toList.take i.toNat++u2::its.toList.drop i.toNat:=by
    have q0:its.toList.length=its.size:=rfl;rcases Nat.le_total i.toNat its.size with q|q
    ·rw [Nat.min_eq_left q];simp [RX,Nat.min_eq_left q]
    ·rw [Nat.min_eq_right q,RX (by omega),U5 (by omega)];simp
   dsimp only;rw [if_neg (by omega),e2];exact(rr.take _).app (.cons ru (rr.drop _))
  ·cases h
 ·cases h
theorem xy {g:G}:∀{xs:List T} {us:List QN},xs.length=us.length->(∀(i:Nat) x u,xs[i]?=some x->us[i]?=some u->RT g none x u)->bM g xs us
 | [],[],_,_=>.nil
 | x::xs,u::us,h,k=>.cons (k 0 x u rfl rfl) (xy (by simpa using h) fun i y v h1 h2=>k (i+1) y v h1 h2)
theorem AA {e:Expr} {m:SE} {fz:Bool} {p ap q pos:Pos} (ha:PA X [e] (gz [m])) (hg:Gl X "list") (hm:X.mg "list"=none) (uA:Gl X "range") (vn:X.mg "range"=none) (mx:[e].all aF=true) (hs:aF (.Call (.Name "range" ap) [e] [] q)=true):PE X (.Call (.Name "list" p) [.Call (.Name "range" ap) [e] [] q] [] pos) (af (pe fz) [m]):=fun {pins φ g L s w L'} I h=>by
 obtain⟨ts,L1,e1,h⟩:=R.of h;obtain⟨t,rfl,e2⟩:=jR e1;refine wpAny_Call_Name_kw (cy I hg hm (by kernel_rfl:bootBuiltins "list"=some (.type "list")) ?_ (by decide) (by decide));refine callWith_type1 ?_ (ai hs) (aL rfl);rw [ai hs];refine Tu ?_;refine wpAny_Call_Name_kw (cy I uA vn boot_range ?_ (by decide) (by decide));refine callWith_type1 (thn (ha q I e1) fun us s1 ⟨g1,l1,I1,r1⟩=>?_) (ai (by simpa using mx)) (aL rfl);obtain⟨u,rfl,ru⟩:=bo r1;unfold pe at h;split at h
 ·rename_i n hq
  cases hq;obtain⟨ok,h⟩:=ak h;obtain⟨k,rfl⟩:=ru.iI;refine call_range_1 ?_;refine Te ?_;have sz:Wh 0 n 1=(n.toNat:Nat):=by rw [rangeSize_one];split <;> omega
  have kp:∀b o,s1.heap.get? b=some o->(s1.heap.push { cls:=.type "range",data:=.fields #[.int 0 s1.toks,.int n k,.int 1 (s1.toks+1)] }).get? b=some o:=fun b o z=>QK _ z
  have I2:=I1.kept (t':=s1.toks+1+1) kp;refine call_list_range I.ok.hd (IsRange.new ..) (small_one (by decide) (by decide) ok.1.1 ok.1.2) sz (by omega) fun h' tk acc c' G4 e it=>?_
  refine(g9 (t':=tk) (n:=c') I2 ?_ h G4 (by simpa using e)).le l1;refine xy (by simp [upTo,it.1]) fun i x v h1 h2=>?_
  obtain⟨t',rfl⟩:=it.2 i v (by simpa using h2);unfold upTo at h1;rw [Rd] at h1;cases hi:(RV n.toNat)[i]? with
  | none=>rw [hi] at h1;cases h1
  | some j =>
   rw [hi] at h1;cases h1;rw [show j=i by simpa [W5] using (Q2.mp hi).2.symm];rw [Int.mul_one];exact .int _ _
 ·cases h
theorem Ed {P:RY} {w:SU} {A:RH} {E:QN->QP->Prop} {s:QP} {nm:String} {d a:Rm} {o:Obj} {ep:Nat} {Q:Unit->QP->Prop} (ho:s.heap.get? a=some o) (hd:o.data=.dict #[] ep) (hs:(a == sysModules)=false) (h:Q () s):QZ (model P w) A (Tn nm d a) Q E s:=by
 unfold Tn;by_cases e:(d == a)=true
 ·rw [if_pos e]
  exact QJ (wpAny_rule (QL h))
 ·rw [if_neg e]
  refine QJ ?_;unfold W3;rw [if_neg (by rw [hs];exact RC)];refine QL (QJ (wpAny_dictEntries ho hd ?_));have qz:(decide ((#[]:Array DictEntry).size<=8) && (#[]:Array DictEntry).all fun e=>(keyPart e.key).isSome)=true:=by simp
  dsimp only;rw [qz];refine QJ (wpAny_dictEpoch ho hd ?_);refine QJ (wpAny_dictEntries ho hd ?_);refine QJ ?_;rw [Uk];exact QL (QL h)
theorem Ee {P:RY} {w:SU} {A:RH} {E:QN->QP->Prop} {s:QP} {nm:String} {d a c:Rm} {o od oc:Obj} {x:DictEntry} {ep ed:Nat} {Q:Unit->QP->Prop} (hne:d≠a) (ho:s.heap.get? a=some o) (hd:o.data=.dict #[x] ep) (hs:(a == sysModules)=false) (wR:s.heap.get? d=some od) (hd2:od.data=.dict #[] ed) (hk:x.key=.ref c) (hc:s.heap.get? c=some oc) (ht:oc.cls=.type "tuple")
  (h:Q () { s with heap:=s.heap.update d (Obj.mapDictKeys fun _=>#[x]) }):QZ (model P w) A (Tn nm d a) Q E s:=by
 have hT:s.TypeIs (.ref c) "tuple":=⟨oc,hc,ht⟩;unfold Tn;rw [if_neg (by simpa using hne)];refine QJ ?_;unfold W3;rw [if_neg (by rw [hs];exact RC)];refine QL (QJ (wpAny_dictEntries ho hd ?_));have qz:(decide ((#[x]:Array DictEntry).size<=8) && (#[x]:Array DictEntry).all fun e=>(keyPart e.key).isSome)=false:=by simp [hk,keyPart]
 dsimp only;rw [qz];refine QJ (wpAny_dictEntries wR hd2 ?_);rw [if_pos (by simp)];refine QJ ?_;unfold Builtin.Dict.entriesForEmpty;refine QJ (wpAny_dictEntries ho hd (QJ ?_));rw [<- T7];refine QJ (QJ ?_);rw [hk];unfold Builtin.Dict.quietEq;refine QJ (wpAny_specialOf hT PySem.F.slot_tuple_eq.lookup (QL ?_));have e1:¬ ((Array.filter (fun y=>y.hash == x.hash) #[x]).size > 1):=Nat.not_lt.mpr (Array.size_filter_le ..)
 rw [if_pos (by decide),if_neg e1];refine QL (QL (QL ?_));rw [if_pos (by simp)];exact QJ (wpAny_updateDictKeysTo wR hd2 (QL h) (by show 1<=_;omega))
theorem xA {P:RY} {w:SU} {A:RH} {E:QN->QP->Prop} {s:QP} {d a:Rm} {o od:Obj} {Q:QN->QP->Prop} (hd:s.heap.get? d=some od) (Pe:od.ExactDict) (ho:s.heap.get? a=some o) (hx:o.ExactDict) (h:∀{A E},QZ (model P w) A (Tn "dict.update" d a) (fun _ s'=>Q .none s') E s):QZ (model P w) A (call (.builtin "dict.update") [.ref d,.ref a]) Q E s:=by
 have hT:s.TypeIs (.ref d) "dict":=⟨od,hd,Pe.1⟩;have KI:s.TypeIs (.ref a) "dict":=⟨o,ho,hx.1⟩
 refine wpAny_call_entry We hT PySem.F.entry_dict_update ?_ (PySem.F.args_dict_update_2 _ _);refine QJ (QJ (wpAny_notOrdered_dict hT (QL ?_)));show QZ _ _ (SH "dict.update" d (.ref a) [] .none) _ _ s
 unfold SH;refine QJ (wpAny_typeOf KI ?_);rw [if_neg (by decide)];refine QJ (QJ ?_);unfold Builtin.Dict.readDirectly;refine QJ (wpAny_isInstance KI isSubtype_dict_dict ?_);simp only [SV,QW,if_false];refine QJ (wpAny_specialOf KI U6.lookup (QL ?_));simp only [beq_self_eq_true,if_true];refine QJ (QL (wpAny_mono h (fun _ s' q=>?_) fun _ _ z=>z));exact QJ (QL (QL ⟨.none,rfl,q⟩))
theorem Ef:ur X "dict.update" nL:=fun {_ _ g L s _ _ w1 L1 _ _} I rx rv h=>by
 unfold nL at h;split at h
 ·rename_i n t
  obtain⟨u,rfl,ru⟩:=bo rv;obtain⟨p,v⟩:=I.view ru;split at h
  ·rename_i ea ev
   cases h;rw [ev] at v;obtain⟨pd,od,es,ep,rfl,hp,oX,hk,D⟩:=I.mH rx ea;obtain⟨a,o,y4,Pf,rfl,_,_,D2⟩:=I.ah v;obtain rfl:y4 = #[]:=SN.mp D2.hl.symm;exact xA D.ho D.hx D2.ho D2.hx (Ed D2.ho D2.hd D2.hs (I.ep .bj))
  ·rename_i k z ea ev
   cases h;rw [ev] at v;obtain⟨pd,od,es,ep,rfl,hp,oX,hk,D⟩:=I.mH rx ea;obtain⟨a,o,y4,Pf,rfl,ta,ka,D2⟩:=I.ah v;obtain rfl:es = #[]:=SN.mp D.hl.symm;have hne:pd.1≠a:=fun e=>by
    have e1:=D.ho;rw [e,D2.ho] at e1;cases e1;have e2:=D.hd.symm.trans D2.hd
    have e3:=D2.hl;cases e2;cases e3
   have l1:1=y4.size:=D2.hl;have l2:y4 = #[y4[0]]:=by
    apply Array.ext
    ·simp;omega
    ·intro i h1 h2;simp at h2;subst h2;simp
   obtain⟨x,rfl⟩:∃x,y4 = #[x]:=⟨y4[0],l2⟩;have r1:=D2.h1 0 _ _ rfl rfl
   obtain⟨c,oc,its,nn,hkey,kc,hc,_⟩:=r1.tI.2;refine xA D.ho D.hx D2.ho D2.hx (Ee hne D2.ho D2.hd D2.hs D.ho D.hd hkey (I.kn kc) hc.1 ?_);obtain⟨g',l,J,_⟩:=I.DB (tk:=s.toks) (ks':=[(.tup k,z)]) (es':=#[x]) hp hk oX D (fun b v hb hv=>(Rh s.heap _ (Sy hb)).trans hv) (RA _ D.ho (Vy (Uw D.hd _))) (D.hx.mapDictKeys _) (Uw D.hd fun _=>#[x]) D2.hz rfl D2.hn D2.hm fun i x e e1 e2=>⟨D2.hh i x e e1 e2,D2.h1 i x e e1 e2,D2.h2 i x e e1 e2⟩
   exact⟨g',l,J,.bj⟩
  ·cases h
 ·cases h
theorem AB {e:Expr} {m:SE} {tg:Expr} {ap q:Pos} (ho:PE X e m) (hb:okBase e=true) (iC:(ap.endLine == q.line)=true):PI X tg (.Call (.Attribute e "items" ap) [] [] q) (zi m):=fun I h=>by
 obtain⟨t,L1,e1,h⟩:=R.of h;refine wpAny_Call_method_late (base_ok hb) (nu rfl (by decide)) iC rfl (thn (ho I e1) fun v s1 ⟨g1,l1,I1,r1⟩=>?_);obtain⟨p,vw⟩:=I1.view r1;split at h
 ·rename_i ev
  cases h;rw [ev] at vw;obtain⟨a,o,ep,rfl,hg,hx,hs,D⟩:=I1.ik vw;have hT:s1.TypeIs (.ref a) "dict":=⟨o,hg,hx.1⟩
  refine⟨"dict","dict.items",Ta,TR,Wq,hT,fun b e=>?_,?_⟩
  ·cases e;exact⟨o,hg,hx.2.1⟩
  ·refine U4 (aL rfl) (Vx ?_)
   refine call_meetsIn TR hT Wd (VZ _) (meets_dict_items (PySem.strKind X.prog X.w) a hs) ⟨⟨[],Xs D⟩,?_⟩;have kp:∀b o,s1.heap.get? b=some o->(s1.heap.push { cls:=.type "dict_items",data:=.fields #[.ref a] }).get? b=some o:=fun b o z=>QK _ z
   have I2:=I1.kept (t':=s1.toks) kp;exact wpAny_pyIter_items (s:={ s1 with heap:=s1.heap.push { cls:=.type "dict_items",data:=.fields #[.ref a] } }) ⟨_,QM _ rfl,rfl,rfl⟩ (D.push _) ((I2.C4 vO ⟨rfl,QM _ rfl,(D.push _).push _⟩).le l1)
 ·cases h
end
section
variable {P:RY} {w:SU} {A:RH} {E:QN->QP->Prop} {s:QP}
theorem AD {it t:Rm} {Q:QN->QP->Prop} (hh:A.handled=none) (hit:s.heap.IsTupleIter it t 0) (ht:s.heap.IsTuple t #[])
  (hE:∀h' e,Xg it s.heap h'->(∃o,h'.get? e=some o/\o.cls=.type "StopIteration")->E (.ref e) { s with heap:=h' }):QZ (model P w) A (Rx (.ref it)) Q E s:=by
 obtain⟨o,ho,hc,hd⟩:=id hit;obtain⟨ol,lY,_,nl,GA⟩:=ht;unfold Rx;refine QJ (wpAny_callSpecial?_slot (name:=Sa "__next__") hit.typeIs SM (wpAny_call_entry SM hit.typeIs UZ ?_ (UQ _)));refine QJ (QL (QJ (wpAny_field ho hd (x:=.ref t) rfl ?_)));show QZ _ _ (if (Sz t == RG)=true then _ else _) _ _ s
 rw [if_neg (show ¬ ((Sz t == RG)=true) from RC)];refine QJ (wpAny_field ho hd (x:=.int ((0:Nat):Int) 0) rfl ?_);show QZ _ _ (seqItems? (.ref t) >>= _) _ _ s
 refine QJ (wpAny_seqItems lY GA ?_);refine QJ (wpAny_rule (QJ (wpAny_setField ho hd (by simp) (QJ ?_))));simp only [newExc,newTuple];refine QJ (wpAny_newObj_type ?_ (by size_fits));refine QJ (m:=firstArgMember _ _) (wpAny_of_eq (a:=RG) (by first|rfl|(simp only [firstArgMember];rfl)) (wpAny_newObj_type ?_ (by size_fits)));simp only [raiseNew];refine QJ (wpAny_handled ?_);rw [show A.in1.handled=none from hh];exact QJ (QL (wpAny_throw (hE _ _ (((RW ..).extBut.push _).push _) ⟨_,QM _ rfl,rfl⟩)))
abbrev tI (l:Rm):Obj:={ cls:=.type "tuple_iterator",data:=.fields #[.ref l,.int 0 0] }
abbrev KJ (h:Heap) (l1 l2:Rm):Heap:=(h.push (tI l1)).push (tI l2)
abbrev KL (h:Heap) (l1 l2:Rm):Heap:=(KJ h l1 l2).push { cls:=.type "tuple",data:=.seq #[.ref h.objs.size,.ref (h.push (tI l1)).objs.size] }
abbrev IZ (h:Heap) (l1 l2:Rm):Heap:=(KL h l1 l2).push { cls:=.type "tuple",data:=.seq #[.none,.none] }
abbrev FH (h:Heap) (l1 l2:Rm):Heap:=(IZ h l1 l2).push { cls:=.type "zip",data:=.fields #[.none,.bool false,.bool false,.ref (KJ h l1 l2).objs.size,.ref (KL h l1 l2).objs.size] }
theorem Eg (l1 l2:Rm) (xs ys:Array QN):Meets (Builtin.«zip.__new__» ⟨[.type "zip",.ref l1,.ref l2],[]⟩) (fun _ R s=>s.heap.IsTuple l1 xs/\s.heap.IsTuple l2 ys/\R (.ok (.ret (.ref (IZ s.heap l1 l2).objs.size))) { s with heap:=FH s.heap l1 l2 }) :=
 .of_wp fun prog w A R s ⟨kH,km,h⟩=>by
  obtain⟨hp,g,d,tk,os⟩:=s;have DV:=sub_zip
  have DW:Xz (Xh ⟨hp,g,d,tk,os⟩) l1 xs:=kH;have BN:Xz (Xh ⟨hp.push (tI l1),g,d,tk,os⟩) l2 ys:=Xv km _
  wp_walk using wpAny_pyIter_tuple DW,wpAny_pyIter_tuple BN
  exact⟨_,rfl,h⟩
theorem AE:typeLookup (.type "zip") "__len__"=pure none:=by rw [typeLookup_type,builtinLookup_eq_fast];kernel_rfl
theorem xB:typeLookup (.type "zip") "__length_hint__"=pure none:=by rw [typeLookup_type,builtinLookup_eq_fast];kernel_rfl
structure Z0 (h:Heap) (z TI TO i1 l1:Rm):Prop where
 z:IsZip h z TI TO .none
 ti:∃y,IsPair h TI (.ref i1) y
 i:h.IsTupleIter i1 l1 0
 l:h.IsTuple l1 #[]
theorem Z0.end {z TI TO i1 l1:Rm} {Q:Option QN->QP->Prop} (hh:A.handled=none) (Z:Z0 s.heap z TI TO i1 l1) (hne:i1≠z) (hl:l1≠z) (hQ:∀h',(∀c o,c≠z->c≠i1->s.heap.get? c=some o->h'.get? c=some o)->Q none { s with heap:=h' }):QZ (model P w) A (pyNext (.ref z)) Q E s:=by
 obtain⟨hz,⟨y,Ap⟩,hi,kH⟩:=Z;have hT:s.TypeIs (.ref z) "zip":=⟨_,hz,rfl⟩
 unfold pyNext;refine QJ (wpAny_attempt (wpAny_callSpecial?_slot (name:=Sa "__next__") hT S3 (wpAny_call_entry S3 hT U7 ?_ (U0 _))));show QZ _ _ (field (.ref z) 2 >>= _) _ _ _
 refine QJ (wpAny_field hz rfl (x:=.bool false) rfl ?_);show QZ _ _ (field (.ref z) 3 >>= _) _ _ _
 refine QJ (wpAny_field hz rfl (x:=.ref TI) rfl ?_);refine QJ (wpAny_seqItems Ap rfl (QJ ?_));unfold RE;refine QJ (wpAny_field hz rfl (x:=.none) rfl (QL ?_));simp only [if_true];refine QJ (wpAny_rule (QJ (wpAny_field hz rfl (x:=.ref TO) rfl ?_)));refine QJ (wpAny_setField_rec hz (by simp) fun h₁ te lM=>QJ ?_);simp only [Wv,WW,TH,Vg];refine QJ (QJ (wpAny_onRaise (QJ ?_)));have up:∀c o,c≠z->s.heap.get? c=some o->h₁.get? c=some o:=fun c o q e=>(lM.2 c q).trans e
 obtain⟨o1,e1,r1⟩:=hi;obtain⟨o2,e2,r2⟩:=kH;refine AD (s:={ s with heap:=h₁ }) hh ⟨o1,up _ _ hne e1,r1⟩ ⟨o2,up _ _ hl e2,r2⟩ fun h₂ e qC ⟨oe,DT,GJ⟩=>?_
 have GK:=qC _ _ (Sy hne) te;have Kb:e≠z:=fun x=>by subst x;rw [GK] at DT;cases DT;simp at GJ
 refine wpAny_setField_rec GK (by simp) fun h₃ _ rA=>?_
 refine QJ (wpAny_isInstance (T:="StopIteration") (b:=true) ⟨oe,(rA.2 e Kb).trans DT,GJ⟩ isSubtype_stop ?_);exact QL (hQ _ fun c o q1 q2 q=>(rA.2 c q1).trans (qC c o q2 (up c o q1 q)))
theorem Z0.keep {h h':Heap} {z TI TO i1 l1:Rm} (Z:Z0 h z TI TO i1 l1) (k:∀b o,h.get? b=some o->h'.get? b=some o):Z0 h' z TI TO i1 l1:=by
 obtain⟨hz,⟨y,Ap⟩,⟨o1,e1,r1⟩,o2,e2,r2⟩:=Z;exact⟨k _ _ hz,⟨y,k _ _ Ap⟩,⟨o1,k _ _ e1,r1⟩,o2,k _ _ e2,r2⟩
theorem Z0.list {z TI TO i1 l1:Rm} {Q:QN->QP->Prop} (hh:A.handled=none) (Z:Z0 s.heap z TI TO i1 l1) (hne:i1≠z) (hl:l1≠z) (hQ:∀h' n,(∀c o,c≠z->c≠i1->s.heap.get? c=some o->h'.get? c=some o)->h'.get? s.heap.objs.size=some { cls:=.type "list",data:=.seq #[] n }->Q (.ref s.heap.objs.size) { s with heap:=h' }):QZ (model P w) A (call (.type "list") [.ref z]) Q E s:=by
 refine callType_codes (Q₁:=fun obj s₁=>obj=.ref s.heap.objs.size/\s₁={ s with heap:=s.heap.push { cls:=.type "list",data:=.seq #[] } }) PySem.F.called_list (PySem.F.typeCall_list_1 _) PySem.F.entry_list_init (code_list_new _ ⟨rfl,rfl⟩) fun obj s₁ h₁=>?_
 obtain⟨rfl,rfl⟩:=h₁;have hS:(s.heap.push { cls:=.type "list",data:=.seq #[] }).get? s.heap.objs.size=some { cls:=.type "list",data:=.seq #[] }:=QM _ rfl
 have KN:z<s.heap.objs.size:=Q1 Z.z;have MW:i1<s.heap.objs.size:=by obtain⟨_,e,_⟩:=Z.i;exact Q1 e
 have w5:∀b o,s.heap.get? b=some o->(s.heap.push { cls:=.type "list",data:=.seq #[] }).get? b=some o:=fun b o e=>QK _ e
 generalize eS:s.heap.objs.size=S at hS KN MW hQ ⊢;generalize s.heap.push { cls:=.type "list",data:=.seq #[] }=h1 at hS w5 ⊢;have Z1:=Z.keep w5
 refine⟨⟨_,hS,rfl⟩,PySem.F.args_list_init_2 _ _,?_⟩;refine QJ (QJ (wpAny_seqItems hS rfl (QL ?_)));refine QJ (wpAny_updateSeq hS rfl ?_);have hS2:=RA (RJ (fun _=>(#[]:Array QN))) hS rfl
 have kp:∀b o,b≠S->s.heap.get? b=some o->(h1.update S (RJ (fun _=>(#[]:Array QN)))).get? b=some o:=fun b o hb e=>(Rh _ _ (Sy hb)).trans (w5 b o e)
 have lt:∀b o,s.heap.get? b=some o->b≠S:=fun b o e=>eS ▸ Rc (Q1 e)
 generalize h1.update S (RJ (fun _=>(#[]:Array QN)))=h2 at hS2 kp ⊢;refine QJ (wpAny_letGo ?_);have Z2:=Z.keep fun b o e=>kp b o (lt b o e) e
 show QZ _ _ (SJ (.ref S) (.ref z) .none) _ _ _;unfold SJ;have hT:UY { s with heap:=h2 } (.ref z) "zip":=⟨_,Z2.z,rfl⟩
 refine QJ (wpAny_typeOf hT ?_);have f1:TM (.ref S) (.ref z)=false:=by simp [TM,RU KN]
 have f2:(Ur "zip" == Ur "list")=false:=by decide
 have f3:(Ur "zip" == Ur "tuple")=false:=by decide
 simp only [f1,f2,f3,UX,QW,if_false];refine QJ (wpAny_pyIter_zip Z2.z ?_);refine QJ (wpAny_holding ?_);unfold Ui;refine QJ (wpAny_specialOf hT AE ?_);refine QJ (wpAny_specialOf hT xB (QL ?_));refine QJ (wpAny_rule (QJ ?_));show QZ _ _ (updateSeq S (·.push .none) >>= fun _=>updateSeq S (·.pop)) _ _ _
 refine QJ (wpAny_updateSeq hS2 rfl ?_);have MX:=RA (RJ (·.push RG)) hS2 rfl
 refine wpAny_updateSeq (hz:=by seq_fits) MX rfl ?_;have MY:=RA (RJ (·.pop)) MX rfl
 have KO:∀b o,s.heap.get? b=some o->((h2.update S (RJ (·.push RG))).update S (RJ (·.pop))).get? b=some o:=fun b o e =>
  have hb:=lt b o e
  (Rh _ _ (Sy hb)).trans ((Rh _ _ (Sy hb)).trans (kp b o hb e))
 generalize (h2.update S (RJ (·.push RG))).update S (RJ (·.pop))=h4 at MY KO ⊢;refine QL ⟨plainId_quiet TC _,codeAny_builtin PySem.F.entry_extend_loop ?_⟩;rw [RN TC _];show QZ _ _ (pyNext (.ref z) >>= _) _ _ _
 refine QJ ((Z.keep KO).end (s:={ s with heap:=h4 }) hh hne hl fun h5 MZ=>?_);exact QL ⟨rfl,hQ h5 _ (fun c o q1 q2 e=>MZ c o q1 q2 (KO c o e)) (MZ S _ (RU KN) (RU MW) MY)⟩
end
section
variable {X:Cx}
theorem Eh {pins:aJ} {φ:Fr} {g:G} {L L2:aa} {s:QP} {fz:Bool} {w:T} {n t':Nat} {a:Rm} {h':Heap} (I:Inv X pins φ g L s) (h:fk fz [] L=.ok w L2) (k:∀b u,s.heap.get? b=some u->h'.get? b=some u) (ha:s.heap.objs.size<=a) (new:h'.get? a=some { cls:=.type "list",data:=.seq #[] n }):EP X pins φ g w L2 (.ref a) { s with heap:=h',toks:=t' }:=by
 have f:=I.hok.fresh ha;obtain⟨_,h⟩:=ak h;unfold mk at h;split at h
 ·cases h
  exact⟨_,Le.lay f,I.laid k ha new,bM.lst (us:=[]) (n:=n) (o:=default) .nil (Le.lay f) (.inl rfl) (.inl aj) (Rf _)⟩
 ·cases h
  refine⟨_,Le.new f,I.new k ha new (bM.lst (us:=[]) (n:=n) (o:=default) .nil (Le.new f) (.inr rfl) (.inl aj) (Rf _)),?_⟩;have:=I.rel.len
  exact .ref (p:=(a,a)) (by show at_ ((_,_)::g.α) _=_;rw [<- this];exact cT)
theorem AF {a b:Expr} {ma mb:SE} {fz:Bool} {p ap q pos:Pos} (ha:PA X [a,b] (gz [ma,mb])) (hg:Gl X "list") (hm:X.mg "list"=none) (uA:Gl X "zip") (vn:X.mg "zip"=none) (mx:[a,b].all aF=true) (hs:aF (.Call (.Name "zip" ap) [a,b] [] q)=true):PE X (.Call (.Name "list" p) [.Call (.Name "zip" ap) [a,b] [] q] [] pos) (af (ph fz) [ma,mb]):=fun {pins φ g L s w L'} I h=>by
 obtain⟨ts,L1,e1,h⟩:=R.of h;obtain⟨t1,t2,rfl⟩:=tA e1;have G5:aF a=true/\aF b=true:=by simpa using mx
 refine wpAny_Call_Name_kw (cy I hg hm (by kernel_rfl:bootBuiltins "list"=some (.type "list")) ?_ (by decide) (by decide));refine callWith_type1 ?_ (ai hs) (aL rfl);rw [ai hs];refine Tu ?_;refine wpAny_Call_Name_kw (cy I uA vn (by kernel_rfl:bootBuiltins "zip"=some (.type "zip")) ?_ (by decide) (by decide));refine callWith_type1 (thn (ha q I e1) fun us s1 ⟨g1,l1,I1,r1⟩=>?_) (ai G5.1) (aL (by simpa using G5.2));obtain⟨u1,u2,rfl,Ky,Kz⟩:=ft r1;unfold ph at h;split at h
 ·rename_i hq
  cases hq;obtain⟨a1,x1,rfl,T1,p1,_⟩:=I1.tupP Ky;obtain⟨a2,x2,rfl,T2,p2,_⟩:=I1.tupP Kz;have z0:x1 = #[]:=by have:=Q0 p1;exact SN.mp (by simpa using this.symm)
  refine callType_new Xq (by decide) (WG _ _) (WX _ _) (fun obj=>VE obj _ _) WY (Eg a1 a2 x1 x2) ⟨T1,T2,?_⟩;refine⟨⟨_,QM _ rfl,rfl⟩,Te ?_⟩;have k1:∀b o,s1.heap.get? b=some o->(FH s1.heap a1 a2).get? b=some o:=fun b o e=>QK _ (QK _ (QK _ (QK _ (QK _ e))))
  have sz:(IZ s1.heap a1 a2).objs.size=s1.heap.objs.size+4:=by simp only [R1]
  have i0:(FH s1.heap a1 a2).get? s1.heap.objs.size=some (tI a1):=QK _ (QK _ (QK _ (QK _ (QM _ rfl))));have la:a1<s1.heap.objs.size:=by obtain⟨o,e,_⟩:=T1;exact Q1 e
  have Z:Z0 (FH s1.heap a1 a2) (IZ s1.heap a1 a2).objs.size (KJ s1.heap a1 a2).objs.size (KL s1.heap a1 a2).objs.size s1.heap.objs.size a1:=by
   refine⟨QM _ rfl,⟨_,QK _ (QK _ (QM _ rfl))⟩,⟨_,i0,rfl,rfl⟩,?_⟩;obtain⟨o,e,r⟩:=T1;rw [z0] at r;exact⟨o,k1 _ _ e,r⟩
  refine Z.list (s:={ s1 with heap:=FH s1.heap a1 a2 }) I.ok.hd (Rc (sz ▸ Nat.lt_add_of_pos_right (by decide))) (Rc (sz ▸ Nat.lt_add_right 4 la)) fun h' n kp new=>?_
  refine(Eh (t':=s1.toks) I1 h (fun b o e=>kp b o ?_ ?_ (k1 b o e)) ?_ new).le l1
  ·exact Rc (sz ▸ Nat.lt_add_right 4 (Q1 e))
  ·exact Rc (Q1 e)
  ·show _<=(FH s1.heap a1 a2).objs.size
   simp only [R1];omega
 ·cases h
end
structure dj (X:Cx) (Γ:Ct):Prop where
 hu:X.A.units+20<cLine
 fn:∀x F,Γ.fn.lookup x=some F->(x == ("__debug__":Str))=false/\∃k fa,dT X.prog X.w X.K X.mg X.cls X.base k fa F/\dS k X.A/\X.mg x=some (.ref fa)/\Si X.K (.ref fa)=true
 co:∀x t,Γ.co.lookup x=some t->(x == ("__debug__":Str))=false/\∃u,X.mg x=some u/\∀g:G,g.B=X.base->g.cls=X.cls->g.w=X.w->RT g none t u
 us:∀x∈Γ.us,X.mg x=none/\x≠"__name__"/\(x == ("__debug__":Str))=false
 fl:∀c C,X.cls c=some C->ClsOk X.K Γ.fl C
 me:∀m mf,Γ.me.lookup m=some mf->∀c C F,X.cls c=some C->mf.lookup c=some F->∃fa k,zH X.K C/\Meth X.K C m fa/\dT X.prog X.w X.K X.mg X.cls X.base k fa F/\dS k X.A
structure du (X:Cx) (S:Sg):Prop where
 N:X.N=S.N
 nd:S.N.Nodup
 nm:S.N.all wY=true
 loc:∀x,S.sc.names.lookup x=some .local->X.env.scope.names.lookup x=some .local
 I0:∀x,S.sc.names.lookup x=some .cell->X.env.scope.names.lookup x=some .cell/\X.fn x=true
 M0:∀x,S.sc.names.lookup x=some .free->X.env.scope.names.lookup x=some .cell\/X.env.scope.names.lookup x=some .free
 Pg:∀x,S.sc.names.lookup x=some .globalImplicit->X.env.scope.names.lookup x=some .globalImplicit
structure dU (X:Cx) (B:Bd):Prop where
 E:∀e,PE X e (B.E e)
 T:∀e,PT X e (B.T e)
 S:∀st,PS X st (B.S st)
section
variable {X:Cx} {Γ:Ct} {S:Sg} {B:Bd} {BS:Sg->Bd} {x:Str} {i:Nat} {pos p p2:Pos} {a b e:Expr} {es:List Expr}
theorem kY {N:List Str} (h:FA N x=some i):N[i]?=some x:=by
 obtain⟨h1,h2,_⟩:=Sl.mp h;rw [Ge9 h1,eq_of_beq h2]
theorem G6 (c:du X S) (h:S.N[i]?=some x):(x == ("__debug__":Str))=false/\(x == ("__classdict__":Str))=false:=by
 have:=QO.mp c.nm x (RM h);unfold wY at this;simpa using this
theorem at_of (c:du X S) (h:S.at x=some i):X.N[i]?=some x/\II X.env.scope x:=by
 unfold Sg.at at h;rw [c.N];split at h
 ·exact⟨kY h,.inl (c.loc x (by assumption))⟩
 ·exact⟨kY h,.inr (.inl (c.I0 x (by assumption)).1)⟩
 ·refine⟨kY h,?_⟩
  rcases c.M0 x (by assumption) with z|z
  ·exact .inr (.inl z)
  ·exact .inr (.inr z)
 ·cases h
theorem kZ (c:du X S) (h:S.own x=some i):qL X i x:=by
 unfold Sg.own at h;split at h
 ·exact⟨by rw [c.N];exact c.nd,by rw [c.N];exact kY h,.inl (c.loc x (by assumption)),.inr (c.loc x (by assumption))⟩
 ·exact⟨by rw [c.N];exact c.nd,by rw [c.N];exact kY h,.inr (c.I0 x (by assumption)).1,.inl (c.I0 x (by assumption)).2⟩
 ·cases h
theorem fZ (c:du X S) (h:S.gl x=true):Gl X x:=by
 unfold Sg.gl at h;split at h
 ·exact c.Pg x (by assumption)
 ·cases h
theorem AG (o:dj X Γ) (c:du X S):PE X (.Name x pos) (eName Γ S x):=by
 unfold eName;split
 ·rename_i h
  obtain⟨h1,h2⟩:=at_of c h;have:=G6 c (by rw [<- c.N];exact h1)
  exact fun {_ _ _ _ _ _ _} I h=>Cz h1 h2 this.1 this.2 I h
 ·split
  ·rename_i hg
   split
   ·rename_i ht
    obtain⟨h1,u,h2,h3⟩:=o.co x _ ht;exact CD (fZ c hg) h2 h3 h1
   ·split
    ·rename_i n hu hn
     obtain⟨h1,h2,h3⟩:=o.us x (by simpa using hu);have hb:bootBuiltins x=some (.type n):=by
      simp only [Rb] at hn
      repeat' split at hn
      all_goals first|cases hn|skip
      all_goals (rename_i hx;have hx:=eq_of_beq hx;subst hx;kernel_rfl)
     exact fun {_ _ _ _ _ _ _} I q=>CF (fZ c hg) h1 hb (fun _ _ _ _=>.ty _) h2 h3 I q
    ·exact fun {_ _ _ _ _ _ _} I q=>b6 I q
  ·exact fun {_ _ _ _ _ _ _} I q=>b6 I q
theorem Ei {k:Const} {j:Nat}:PE X (.Constant k j pos) (DN k):=by
 cases k with
 | int=>exact CA
 | bool=>exact FQ
 | none=>exact CB
 | str x =>
  delta DN;dsimp only;split
  ·rename_i h;exact CC (of_decide_eq_true h)
  ·exact b6
 | _=>exact b6
theorem Ej (o:dj X Γ) (hB:dU X B) {ops:List CmpOp}:PE X (.Compare a ops es pos) (wW B a ops es):=by
 unfold wW;split
 ·exact b6
 ·split
  ·split
   ·split
    ·exact CH (nG o.hu) (hB.E _) (hB.E _) (by assumption)
    ·exact b6
   ·exact b6
  ·split
   ·split
    ·split
     ·exact vG (fun _=>nG o.hu) (hB.E _) (hB.E _) (hB.E _) (by assumption)
     ·exact b6
    ·exact b6
   ·exact b6
theorem AH (o:dj X Γ) (hB:dU X B) {ops:List CmpOp}:PT X (.Compare a ops es pos) (tv (wW B a ops es)):=by
 have AI:PT X (.Compare a ops es pos) (tv no):=fun {_ _ _ _ _ _ _} w _ I h=>by cases h
 unfold wW;split
 ·exact @AI
 ·split
  ·split
   ·split
    ·rename_i hm;exact fun {_ _ _ _ _ _ _} w hw I h=>CQ (nG o.hu) (hB.E _) (hB.E _) hm w hw I h
    ·exact @AI
   ·exact @AI
  ·split
   ·split
    ·split
     ·rename_i hm;exact fun {_ _ _ _ _ _ _} w hw I h=>vH (fun _=>nG o.hu) (hB.E _) (hB.E _) (hB.E _) hm w hw I h
     ·exact @AI
    ·exact @AI
   ·exact @AI
theorem xC (hB:dU X B) {o:Option Expr}:PO X o (o.map B.E):=by
 cases o with
 | none=>exact zN
 | some e=>exact zO (hB.E e)
theorem Ek (o:dj X Γ) (hB:dU X B):PE X (.Subscript a b pos) (Gy Γ B a b pos):=by
 have V:PE X (.Subscript a b pos) (IT B a b):=by
  unfold IT;split
  ·exact FT (Gp o.hu (by assumption)) (hB.E _) (hB.E _)
  ·exact b6
 cases b with
 | Slice lo hi st p=>cases st with
  | none=>exact fun {_ _ _ _ _ _ _} I q=>Dt (hB.E _) (xC hB) (xC hB) I q
  | some _=>exact @V
 | _=>exact @V
theorem cC (hB:dU X B):∀{es:List Expr},es.all aF=true->PA X es (gz (es.map B.E))
 | [],_=>m9
 | e::es,h=>by
  rw [R0,QS] at h;exact ir (hB.E e) (cC hB h.2) h.1
theorem tB (hB:dU X B):∀(es:List Expr),PE X (.BoolOp .And es pos) (jz (es.map B.E))
 | []=>b6
 | [a]=>vF (hB.E a)
 | a::b::r=>CL (hB.E a) (tB hB (b::r))
theorem xD (hB:dU X B):∀(es:List Expr),PE X (.BoolOp .Or es pos) (vh (es.map B.E))
 | []=>b6
 | [a]=>vF (hB.E a)
 | a::b::r=>FV (hB.E a) (xD hB (b::r))
theorem tC (hB:dU X B):∀(es:List Expr),PT X (.BoolOp .And es pos) (fW (es.map B.T))
 | []=>sE
 | [a]=>zq (hB.T a)
 | a::b::r=>CP (hB.T a) (tC hB (b::r))
theorem xE (hB:dU X B):∀(es:List Expr),PT X (.BoolOp .Or es pos) (vm (es.map B.T))
 | []=>sE
 | [a]=>CO (hB.T a)
 | a::b::r=>FW (hB.T a) (xE hB (b::r))
theorem eY (hB:dU X B):∀(l:List Stmt),vD X l (ab (l.map B.S))
 | []=>zr
 | s::l=>vJ (hB.S s) (eY hB l)
theorem AJ {a:Option Nat} {b:Option (List Nat)} {is:List Nat} (h:DP a b=some is):∃i js,a=some i/\b=some js/\is=i::js:=by
 cases a with
 | none=>cases h
 | some i=>cases b with
  | none=>cases h
  | some js=>cases h;exact⟨i,js,rfl,rfl,rfl⟩
theorem nV (c:du X S):∀{ts:List Expr} {is:List Nat},wX S ts=some is->FZ X ts is/\(assignEach ts X.env).length=is.length/\(assignEach ts X.env).findIdx? (·.1)=none
 | [],is,h=>by cases h;exact⟨zx,rfl,rfl⟩
 | t::r,is,h=>by
  cases t with
  | Name x p =>
   obtain⟨i,js,h1,h2,rfl⟩:=AJ (show DP (S.own x) (wX S r)=some is from h);obtain⟨q1,q2,q3⟩:=nV c h2;refine⟨vK (kZ c h1) q1,?_,?_⟩
   ·show(assignEach r X.env).length+1=_;rw [q2];rfl
   ·show((false,_)::assignEach r X.env).findIdx? (·.1)=none
    rw [VL,q3];rfl
  | _=>cases h
theorem rN (c:du X S) {tg:Expr} {t:Tg} (h:JT S tg=some t):PG X tg t:=by
 cases tg with
 | Name x p =>
  obtain⟨i,h1,rfl⟩:=QY.mp h;exact jH (kZ c h1)
 | Tuple ts k p =>
  obtain⟨is,h1,rfl⟩:=QY.mp h;obtain⟨q1,q2,q3⟩:=nV c h1;exact vL q1 q2 q3
 | _=>cases h
theorem xF {e:Expr} (h:isTup e=true):∃ts k p,e=.Tuple ts k p:=by
 cases e with
 | Tuple ts k p=>exact⟨ts,k,p,rfl⟩
 | _=>cases h
theorem nW (o:dj X Γ) (c:du X S) (hB:dU X B) {tg:Expr}:PI X tg e (stI Γ B S tg e):=by
 unfold stI;split
 ·rename_i x px es pos
  unfold BG;split
  ·rename_i hc
   simp only [QS] at hc;obtain⟨⟨h1,h2⟩,h3⟩:=hc;have hg:=fZ c h1
   have hm:=(o.us x (by simpa using h2)).1;split
   ·rename_i hx
    have:=eq_of_beq hx;subst this;split
    ·simp only [R0,WT,Vt] at h3
     exact fun {_ _ _ _ _ _ _ _} I h=>zy hg hm (hB.E _) h3 I h
    ·simp only [R0,WT,Vt,QS] at h3
     exact fun {_ _ _ _ _ _ _ _} I h=>zA hg hm (hB.E _) (hB.E _) h3.1 h3.2 I h
    ·exact fun {_ _ _ _ _ _ _ _} I h=>hK (hB.E _) I h
   ·split
    ·split
     ·rename_i hx
      have:=eq_of_beq hx;subst this;split
      ·rename_i ht
       simp only [R0,WT,Vt] at h3;obtain⟨_,_,_,rfl⟩:=xF ht;exact fun {_ _ _ _ _ _ _ _} I h=>C5 hg hm (hB.E _) h3 I h
      ·exact fun {_ _ _ _ _ _ _ _} I h=>hK (hB.E _) I h
     ·exact fun {_ _ _ _ _ _ _ _} I h=>hK (hB.E _) I h
    ·exact fun {_ _ _ _ _ _ _ _} I h=>hK (hB.E _) I h
  ·exact fun {_ _ _ _ _ _ _ _} I h=>hK (hB.E _) I h
 ·split
  ·rename_i h
   simp only [QS] at h;obtain⟨⟨h1,h2⟩,h3⟩:=h;have:=eq_of_beq h3
   subst this;exact fun {_ _ _ _ _ _ _ _} I h=>AB (hB.E _) h1 h2 I h
  ·exact fun {_ _ _ _ _ _ _ _} I h=>hK (hB.E _) I h
 ·exact fun {_ _ _ _ _ _ _ _} I h=>hK (hB.E _) I h
theorem iN {scope:Scope} {env:Env} {y:Str} {k:NameKind} (h:scope.names.lookup y=some k) (hk:k≠.free):(relabel scope env).names.lookup y=some k:=by
 have go:∀(names:List (Str × NameKind)),names.lookup y=some k->(names.map fun(n,k)=>if (k == Sv && env.scope.kind == .function && env.kindOf n == some .cell) then (n,Wj) else (n,k)).lookup y=some k:=by
  intro names;induction names with
  | nil=>intro h;simp at h
  | cons a r ih =>
   obtain⟨n,k'⟩:=a;intro h;rw [Q4];rw [Rb] at h;by_cases hc:(k' == Sv && env.scope.kind == .function && env.kindOf n == some .cell)=true
   ·simp only [hc,if_true,Rb]
    cases hy:y == n with
    | true =>
     rw [hy] at h;have e:k'=k:=SF h
     simp only [QS,beq_iff_eq] at hc;exact absurd (e ▸ hc.1.1) hk
    | false =>
     rw [hy] at h;exact ih h
   ·simp only [hc,QW,if_false,Rb]
    cases hy:y == n with
    | true =>
     rw [hy] at h;exact h
    | false =>
     rw [hy] at h;exact ih h
 exact go scope.names h
theorem tD (c:du X S) {sc:Scope} (h:rp S sc=true):j5 X sc (inN sc) (aA S sc)/\∀cl C s₀ H₀ ex,du (cz X sc cl (inN sc) C s₀ H₀ ex) ⟨inN sc,sc⟩:=by
 unfold rp at h;simp only [QS] at h;obtain⟨⟨⟨h1,h2⟩,h3⟩,h4⟩:=h;have h2:=QO.mp h2
 have j6:∀y∈sc.names,y.2≠.cell:=fun y hy e=>by
  have:=h2 y hy;rw [e] at this;cases this
 constructor
 ·refine⟨?_,j6,fun y hy e=>?_,fun y hy e=>?_,fun i y j q1 q2=>?_,of_decide_eq_true h3,by unfold aA;rw [Lm9]⟩
  ·split at h1
   ·assumption
   ·cases h1
  ·have:=h2 y hy
   simp only [e] at this;split at this
   ·assumption
   ·cases this
  ·have:=h2 y hy
   simp only [e] at this;split at this
   ·rename_i k;exact .inl (c.I0 _ k).1
   ·rename_i k;exact c.M0 _ k
   ·cases this
  ·unfold aA at q2
   rw [Rd,q1] at q2;simp only [Option.map_some,Option.some.injEq] at q2;split at q2
   ·rename_i k
    exact⟨(at_of c q2).1,k⟩
   ·cases q2
 ·intro cl C s₀ H₀ ex
  exact⟨rfl,of_decide_eq_true h3,h4,fun x h=>iN h (by decide),fun x h=>absurd rfl (j6 (x,.cell) (RD h)),fun x h=>iA h,fun x h=>iN h (by decide)⟩
theorem dj.comp (o:dj X Γ) {sc:Scope} {N:List Str} {cl C s₀ H₀ ex}:dj (cz X sc cl N C s₀ H₀ ex) Γ:=⟨o.hu,o.fn,o.co,o.us,o.fl,o.me⟩
theorem pM (hB:dU X B) (ifs:List Expr):C9 X ifs (tests B ifs):=by
 unfold tests;split
 ·exact zB
 ·exact zC (hB.T _)
 ·exact fun I h=>by cases h
theorem AK (hS:∀X S,dj X Γ->du X S->dU X (BS S)) (o:dj X Γ) (c:du X S) {elt tg iter:Expr} {ifs:List Expr} {sc:Scope}:PE X (.ListComp elt [⟨tg,iter,ifs,0⟩] sc pos) (mK Γ BS S elt tg iter ifs sc pos):=by
 unfold mK;split
 ·rename_i t ht
  split
  ·rename_i h
   simp only [QS] at h;obtain⟨⟨h1,h2⟩,h3⟩:=h;obtain⟨k1,k2⟩:=tD c h1;refine fun {_ _ _ _ _ _ _} I h=>sM k1 (fun i hi=>?_) (nW o c (hS X S o c)) (fun cl C s₀ H₀ ex=>rN (k2 cl C s₀ H₀ ex) ht) (fun cl C s₀ H₀ ex=>pM (hS _ _ o.comp (k2 cl C s₀ H₀ ex)) ifs) (fun cl C s₀ H₀ ex=>(hS _ _ o.comp (k2 cl C s₀ H₀ ex)).E elt) h2 I h
   have:=QO.mp h3 i hi;split at this
   ·assumption
   ·cases this
  ·exact b6
 ·exact b6
theorem xG (hS:∀X S,dj X Γ->du X S->dU X (BS S)) (o:dj X Γ) (c:du X S) {y:Str} (hy:qL X i y) {elt tg iter:Expr} {ifs:List Expr} {sc:Scope}:PS X (.Assign [.Name y p] (.ListComp elt [⟨tg,iter,ifs,0⟩] sc pos) p2) (asg (.one i) (mK Γ BS S elt tg iter ifs sc pos)):=by
 have AI:PS X (.Assign [.Name y p] (.ListComp elt [⟨tg,iter,ifs,0⟩] sc pos) p2) (asg (.one i) no):=fun I h=>absurd rfl h
 unfold mK;split
 ·rename_i t ht
  split
  ·rename_i h
   simp only [QS] at h;obtain⟨⟨h1,h2⟩,h3⟩:=h;obtain⟨k1,k2⟩:=tD c h1;refine fun {_ _ _ _ _} I h=>zF hy k1 (fun i hi=>?_) (nW o c (hS X S o c)) (fun cl C s₀ H₀ ex=>rN (k2 cl C s₀ H₀ ex) ht) (fun cl C s₀ H₀ ex=>pM (hS _ _ o.comp (k2 cl C s₀ H₀ ex)) ifs) (fun cl C s₀ H₀ ex=>(hS _ _ o.comp (k2 cl C s₀ H₀ ex)).E elt) h2 I h
   have:=QO.mp h3 i hi;split at this
   ·assumption
   ·cases this
  ·exact fun {_ _ _ _ _} I h=>AI I h
 ·exact fun {_ _ _ _ _} I h=>AI I h
end
section
variable {X:Cx} {Γ:Ct} {S:Sg} {B:Bd} {BS:Sg->Bd} {x:Str} {i:Nat} {pos p p2:Pos} {a b e o:Expr} {es:List Expr} {fz:Bool} {F:Fn}
theorem lb {α β:Type} [BEq α] [LawfulBEq α] {P:α->β->Prop} {x:α} {b:β}:∀{l:List (α × β)},l.lookup x=some b->(∀p∈l,P p.1 p.2)->P x b
 | (a,c)::l,h,k=>by
  rw [Rb] at h;split at h
  ·rename_i e
   cases h;cases eq_of_beq e;exact k _ QR
  ·exact lb h fun p hp=>k p (QV _ hp)
theorem lc {α:Type} {P:α->Prop} {a:α} {l:List α} (h:P a) (k:∀x∈l,P x):∀x∈a::l,P x:=Vq.mpr ⟨h,k⟩
theorem ln {α:Type} {P:α->Prop}:∀x∈([]:List α),P x:=fun _ h=>nomatch h
theorem El (hu:X.A.units+20<cLine) (h:blt x fz=some F):∃f,bootBuiltins x=some f/\cR X f F/\((∃id,f=.builtin id)\/∃T,f=.type T):=by
 refine lb (P:=fun x F=>∃f,bootBuiltins x=some f/\cR X f F/\((∃id,f=.builtin id)\/∃T,f=.type T)) h ?_
 repeat' refine lc ?_ ?_
 ·exact⟨_,by kernel_rfl,wc,.inl ⟨_,rfl⟩⟩
 ·exact⟨_,by kernel_rfl,uy,.inr ⟨_,rfl⟩⟩
 ·exact⟨_,by kernel_rfl,we,.inr ⟨_,rfl⟩⟩
 ·exact⟨_,by kernel_rfl,wj,.inl ⟨_,rfl⟩⟩
 ·exact⟨_,by kernel_rfl,wm,.inl ⟨_,rfl⟩⟩
 ·exact⟨_,by kernel_rfl,wx,.inl ⟨_,rfl⟩⟩
 ·exact⟨_,by kernel_rfl,wo,.inr ⟨_,rfl⟩⟩
 ·exact⟨_,by kernel_rfl,wq,.inr ⟨_,rfl⟩⟩
 ·exact⟨_,by kernel_rfl,zR,.inl ⟨_,rfl⟩⟩
 ·exact⟨_,by kernel_rfl,uB hu,.inr ⟨_,rfl⟩⟩
 ·exact⟨_,by kernel_rfl,uH hu,.inl ⟨_,rfl⟩⟩
 ·exact ln
theorem En (hu:X.A.units+20<cLine) {f:Ty->Option (T->Fn)} (h:My x fz=some f):∀y F,f y=some F->Dx X x y F:=by
 refine lb (P:=fun x f=>∀y F,f y=some F->Dx X x y F) h ?_
 repeat' refine lc ?_ ?_
 rotate_right
 ·exact ln
 all_goals (intro y F hf;cases y <;> cases hf)
 ·exact⟨_,TS,Vo,PySem.F.type_list_append,Dy⟩
 ·exact⟨_,TS,Vp,PySem.F.type_list_extend,Dz⟩
 ·exact⟨_,TS,Wk,PySem.F.type_list_count,zV hu⟩
 ·exact⟨_,Wf,V6,PySem.F.type_tuple_count,zW hu⟩
 ·exact⟨_,Wf,V7,PySem.F.type_tuple_index,DA hu⟩
 ·exact⟨_,U9,PySem.F.slot_str_join,PySem.F.type_str_join,zX⟩
 ·exact⟨_,U9,T3,PySem.F.type_str_split,wA⟩
 ·exact⟨_,U9,PySem.F.slot_str_strip,PySem.F.type_str_strip,wy⟩
 ·exact⟨_,Ta,WU,PySem.F.type_dict_get,DE hu⟩
 ·exact⟨_,Ta,Vs,PySem.F.type_dict_setdefault,DF hu⟩
 ·exact⟨_,TS,W2,PySem.F.type_list_insert,Ec⟩
 ·exact⟨_,Ta,We,PySem.F.type_dict_update,Ef⟩
theorem AL (o:dj X Γ) (c:du X S) (hB:dU X B) {q:Fn × List Expr} (hg:Gl X x) (h1:X.mg x=none) (h2:x≠"__name__") (h3:(x == ("__debug__":Str))=false) (hs:es.all aF=true) (h:nest Γ S fz x es=some q):PE X (.Call (.Name x p) es [] pos) (af q.1 (q.2.map B.E)):=by
 unfold nest at h;split at h
 case h_2=>cases h
 split at h
 case h_2=>cases h
 split at h
 case h_2=>cases h
 split at h
 case h_3=>cases h
 ·rename_i y4 q _ _ y p2
  replace hs:aF (.Call (.Name y p2) y4 [] q)=true:=by simpa using hs
  unfold BH at h;split at h
  case h_2=>cases h
  rename_i hb;simp only [QS] at hb;obtain⟨⟨⟨b1,b2⟩,b3⟩,b4⟩:=hb;obtain⟨m1,m2,m3⟩:=o.us y (by simpa using b2);split at h
  ·rename_i hx
   rw [QS] at hx;have e1:=eq_of_beq hx.1
   have e2:=eq_of_beq hx.2;subst e1 e2;split at h
   ·cases h
    exact fun {_ _ _ _ _ _ _} I q=>xx o.hu (cC hB b3) hg h1 (fZ c b1) m1 b3 hs I q
   ·cases h
  ·split at h
   ·rename_i hx
    rw [QS] at hx;have e1:=eq_of_beq hx.1
    have e2:=eq_of_beq hx.2;subst e1 e2;split at h
    ·cases h
     exact fun {_ _ _ _ _ _ _} I q=>Az o.hu (cC hB b3) hg h1 (fZ c b1) m1 b3 hs I q
    ·cases h
   ·split at h
    ·rename_i hx
     rw [QS] at hx;have e1:=eq_of_beq hx.1
     have e2:=eq_of_beq hx.2;subst e1 e2;split at h
     ·cases h
      exact fun {_ _ _ _ _ _ _} I q=>AF (cC hB b3) hg h1 (fZ c b1) m1 b3 hs I q
     ·cases h
    ·split at h
     ·rename_i hx
      rw [QS] at hx;have e1:=eq_of_beq hx.1
      have e2:=eq_of_beq hx.2;subst e1 e2;split at h
      ·cases h
       exact fun {_ _ _ _ _ _ _} I q=>AA (cC hB b3) hg h1 (fZ c b1) m1 b3 hs I q
      ·cases h
     ·cases h
 ·rename_i y4 q _ _ ob m ap
  split at h
  case h_2=>cases h
  replace hs:aF (.Call (.Attribute ob m ap) [] [] q)=true:=by simpa using hs
  unfold BI at h;split at h
  ·rename_i hb
   simp only [QS] at hb;obtain⟨⟨⟨⟨b1,b2⟩,b3⟩,b4⟩,b5⟩:=hb;have e1:=eq_of_beq b3
   have e2:=eq_of_beq b4;subst e1 e2;cases h;exact fun {_ _ _ _ _ _ _} I q=>xw o.hu (hB.E _) b1 b2 hg h1 hs I q
  ·cases h
theorem AM (o:dj X Γ) (c:du X S) (hB:dU X B):PE X (.Call (.Name x p) es [] pos) (wZ Γ B S x es pos):=by
 unfold wZ;split
 ·rename_i h
  simp only [QS] at h;split
  ·rename_i F hF
   obtain⟨h1,k,fa,h2,h3,h4,h5⟩:=o.fn x F hF;cases es with
   | nil=>exact fun {_ _ _ _ _ _ _} I q=>zJ (qU h2 h3) (fZ c h.1) h4 h5 h1 I q
   | cons e es=>exact fun {_ _ _ _ _ _ _} I q=>Dj (qU h2 h3) (fZ c h.1) h4 h5 (cC hB h.2) h.2 h1 I q
  ·split
   ·rename_i hb hF
    simp only [QS] at hb;obtain⟨h1,h2,h3⟩:=o.us x (by simpa using hb.1);split
    ·rename_i q hq
     exact fun {_ _ _ _ _ _ _} I z=>AL o c hB (fZ c h.1) h1 h2 h3 h.2 hq I z
    ·cases es with
     | nil=>exact absurd hb.2 (by simp)
     | cons e es=>exact fun {_ _ _ _ _ _ _} I q=>Du (El o.hu hF) (fZ c h.1) h1 h2 h3 (cC hB h.2) h.2 I q
   ·exact fun {_ _ _ _ _ _ _} I q=>b6 I q
 ·exact fun {_ _ _ _ _ _ _} I q=>b6 I q
theorem AO (oc:dj X Γ) (hB:dU X B):PE X (.Call (.Attribute o x p) es [] pos) (w4 Γ B o x p es pos):=by
 unfold w4;split
 ·rename_i h
  simp only [QS] at h;obtain⟨⟨⟨h1,h2⟩,h3⟩,h4⟩:=h;have h3:=of_decide_eq_true h3
  have h0:es=[]->es.map B.E=[]:=fun e=>by rw [e];rfl
  split
  ·rename_i mf hF
   refine fun {_ _ _ _ _ _ _} I q=>zL (fun c C F hc hf=>?_) (hB.E o) (cC hB h2) h0 h2 h3 h1 h4 I q
   obtain⟨fa,k,q1,q2,q3,q4⟩:=oc.me x mf hF c C F hc hf;exact⟨fa,q1,q2,qU q3 q4⟩
  ·split
   ·rename_i f hf
    exact fun {_ _ _ _ _ _ _} I q=>zS (En oc.hu hf) (hB.E o) (cC hB h2) h0 h2 h3 h1 h4 I q
   ·exact fun {_ _ _ _ _ _ _} I q=>b6 I q
 ·exact fun {_ _ _ _ _ _ _} I q=>b6 I q
theorem xH (hS:∀X S,dj X Γ->du X S->dU X (BS S)) (o:dj X Γ) (c:du X S) (e:Expr):PE X e (BJ Γ BS S e):=by
 have hB:=hS X S o c;have no:PE X e no:=fun {_ _ _ _ _ _ _} I q=>b6 I q
 cases e with
 | Name=>exact fun {_ _ _ _ _ _ _} I q=>AG o c I q
 | Constant=>exact fun {_ _ _ _ _ _ _} I q=>Ei I q
 | BinOp=>exact fun {_ _ _ _ _ _ _} I q=>CG Dq (hB.E _) (hB.E _) I q
 | UnaryOp op=>cases op with
  | Not=>exact fun {_ _ _ _ _ _ _} I q=>CK (hB.E _) I q
  | USub=>exact fun {_ _ _ _ _ _ _} I q=>FU CJ (hB.E _) I q
  | _=>exact @no
 | BoolOp op=>cases op with
  | And=>exact fun {_ _ _ _ _ _ _} I q=>tB hB _ I q
  | Or=>exact fun {_ _ _ _ _ _ _} I q=>xD hB _ I q
 | Compare=>exact fun {_ _ _ _ _ _ _} I q=>Ej o hB I q
 | IfExp=>exact fun {_ _ _ _ _ _ _} I q=>CS (hB.T _) (hB.E _) (hB.E _) I q
 | List =>
  delta BJ;dsimp only;split
  ·rename_i h;exact fun {_ _ _ _ _ _ _} I q=>CT (cC hB h) I q
  ·exact @no
 | Tuple =>
  delta BJ;dsimp only;split
  ·rename_i h
   simp only [QS] at h;exact fun {_ _ _ _ _ _ _} I q=>CU (cC hB h.1) (Ra (of_decide_eq_true h.2) (by decide)) (by simp) I q
  ·exact @no
 | Dict a b=>cases a with
  | nil=>cases b with
   | nil=>exact fun {_ _ _ _ _ _ _} I q=>Ad I q
   | _=>exact @no
  | _=>exact @no
 | Subscript=>exact fun {_ _ _ _ _ _ _} I q=>Ek o hB I q
 | Attribute =>
  delta BJ;dsimp only;split
  ·rename_i h
   simp only [QS] at h;exact fun {_ _ _ _ _ _ _} I q=>pe_fld o.fl (by simpa using h.2) (hB.E _) h.1 I q
  ·exact @no
 | ListComp _ gs=>cases gs with
  | nil=>exact @no
  | cons g r =>
   obtain⟨tg,it,fs,n⟩:=g;cases n with
   | ofNat n=>cases n with
    | zero=>cases r with
     | nil=>exact fun {_ _ _ _ _ _ _} I q=>AK hS o c I q
     | cons=>exact @no
    | succ=>cases r <;> exact @no
   | negSucc=>cases r <;> exact @no
 | Call f es ks=>cases ks with
  | nil=>cases f with
   | Name=>exact fun {_ _ _ _ _ _ _} I q=>AM o c hB I q
   | Attribute=>exact fun {_ _ _ _ _ _ _} I q=>AO o hB I q
   | _=>exact @no
  | cons=>cases f <;> exact @no
 | _=>exact @no
theorem Eo (o:dj X Γ) (hB:dU X (BS S)) (hE:∀e,PE X e (BJ Γ BS S e)) (e:Expr):PT X e (rq (BS S) (BJ Γ BS S) e):=by
 have no:PT X e no:=fun {_ _ _ _ _ _ _} w hw I q=>sE w hw I q
 cases e with
 | UnaryOp op=>cases op with
  | Not=>exact fun {_ _ _ _ _ _ _} w hw I q=>CN (hB.T _) w hw I q
  | _=>exact @no
 | BoolOp op=>cases op with
  | And=>exact fun {_ _ _ _ _ _ _} w hw I q=>tC hB _ w hw I q
  | Or=>exact fun {_ _ _ _ _ _ _} w hw I q=>xE hB _ w hw I q
 | Compare=>exact fun {_ _ _ _ _ _ _} w hw I q=>AH o hB w hw I q
 | Name|Call|Subscript|Attribute|Constant=>exact fun {_ _ _ _ _ _ _} w hw I q=>CM (hE _) (fun _=>rfl) (fun _ _ _ h=>by cases h) w hw I q
 | _=>exact @no
theorem BX {tg:Expr} {l:Nat} {env:Env} (h:jl e=true):swapsWithSole [tg] e l env=pure false:=jZ h
theorem M1 {ts:List Expr} {k:Nat} {env:Env} (h:BK e=true):swappedStores [.Tuple ts k p] e env=pure none/\jl e=true:=by
 cases e <;> first|exact⟨rfl,rfl⟩|cases h
theorem Ep {gs:List Comprehension} {tg iter:Expr} {ifs:List Expr} (h:JU gs=some (tg,iter,ifs)):gs=[⟨tg,iter,ifs,0⟩]:=by
 unfold JU at h;split at h
 ·cases h;rfl
 ·cases h
theorem Er (hS:∀X S,dj X Γ->du X S->dU X (BS S)) (o:dj X Γ) (c:du X S) {tg:Expr}:PS X (.Assign [tg] e pos) (uF Γ BS S tg e):=by
 have hB:=hS X S o c;have no:PS X (.Assign [tg] e pos) fh:=fun {_ _ _ _ _} I q=>vI I q
 cases tg with
 | Name x p =>
  delta uF;dsimp only;split
  ·rename_i i hi
   have V:PS X (.Assign [.Name x p] e pos) (Am BS S i e):=by
    unfold Am;split
    ·rename_i hv
     exact fun {_ _ _ _ _} I q=>qM (hB.E _) (jH (kZ c hi)) (BX hv) rfl rfl I q
    ·exact @no
   cases e with
   | ListComp elt gs sc q =>
    dsimp only;split
    ·rename_i hg
     cases Ep hg;exact fun {_ _ _ _ _} I q=>xG hS o c (kZ c hi) I q
    ·exact @V
   | _=>exact @V
  ·exact @no
 | Tuple ts _ _ =>
  delta uF;dsimp only;split
  ·rename_i hi ht
   obtain⟨q1,q2,q3⟩:=nV c hi;exact fun {_ _ _ _ _} I q=>qM (hB.E _) (vL q1 q2 q3) (BX (M1 (ts:=[]) (k:=0) (p:=pos) (env:=X.env) ht).2) (M1 ht).1 rfl I q
  ·exact @no
 | Attribute ob f _ =>
  delta uF;dsimp only;split
  ·rename_i h
   exact fun {_ _ _ _ _} I q=>zI o.fl (by simpa using h) (hB.E _) (hB.E _) I q
  ·exact @no
 | Subscript ob i _ =>
  delta uF;dsimp only;split
  ·rename_i h;exact fun {_ _ _ _ _} I q=>Ab o.hu (hB.E _) (hB.E _) (hB.E _) h I q
  ·exact @no
 | _=>exact @no
theorem Es (hS:∀X S,dj X Γ->du X S->dU X (BS S)) (o:dj X Γ) (c:du X S) (st:Stmt):PS X st (FC Γ BS S st):=by
 have hB:=hS X S o c;have no:PS X st fh:=fun {_ _ _ _ _} I q=>vI I q
 cases st with
 | Pass=>exact fun {_ _ _ _ _} I q=>zu I q
 | Break=>exact fun {_ _ _ _ _} I q=>CV I q
 | Continue=>exact fun {_ _ _ _ _} I q=>CW I q
 | Expr =>
  delta FC;dsimp only;split
  ·rename_i h;exact fun {_ _ _ _ _} I q=>CX (hB.E _) h I q
  ·exact @no
 | Return v=>cases v with
  | none=>exact fun {_ _ _ _ _} I q=>zw I q
  | some=>exact fun {_ _ _ _ _} I q=>CY (hB.E _) I q
 | If=>exact fun {_ _ _ _ _} I q=>FX (hB.T _) (eY hB _) (eY hB _) I q
 | Assign ts=>cases ts with
  | nil=>exact @no
  | cons t r=>cases r with
   | nil=>exact fun {_ _ _ _ _} I q=>Er hS o c I q
   | cons=>exact @no
 | AugAssign t=>cases t with
  | Name =>
   delta FC;dsimp only;split
   ·rename_i h;exact fun {_ _ _ _ _} I q=>C0 (kZ c h) (hB.E _) wB I q
   ·exact @no
  | Subscript =>
   delta FC;dsimp only;split
   ·rename_i h;exact fun {_ _ _ _ _} I q=>Ac o.hu (hB.E _) (hB.E _) (hB.E _) h I q
   ·exact @no
  | _=>exact @no
 | For tg e b r=>cases r with
  | nil =>
   delta FC;dsimp only;split
   ·rename_i h1 h2;exact fun {_ _ _ _ _} I q=>C6 (nW o c hB) (rN c h1) (eY hB _) h2 I q
   ·exact @no
  | cons=>exact @no
 | While k b r=>cases r with
  | nil=>exact fun {_ _ _ _ _} I q=>C1 (hB.T _) (eY hB _) lim I q
  | cons=>exact @no
 | _=>exact @no
theorem pN:∀(n:Nat) (X:Cx) (S:Sg),dj X Γ->du X S->dU X (cX Γ n S)
 | 0,X,S,_,_=>⟨fun _ {_ _ _ _ _ _ _} I q=>b6 I q,fun _ {_ _ _ _ _ _ _} w hw I q=>sE w hw I q,fun _ {_ _ _ _ _} I q=>vI I q⟩
 | n+1,X,S,o,c=>⟨xH (pN n) o c,Eo o (pN n X S o c) (xH (pN n) o c),Es (pN n) o c⟩
theorem tE (o:dj X Γ) (c:du X S) (b:List Stmt):vD X b (code Γ S b):=eY (pN 40 X S o c) b
end
theorem pO {n0 n:Nat} {L:aa} (hn:n0<=n) (h:∀c,at_ L n=some c->c=.ref n):∀k,bZ n0 L k (.ref n)=none
 | 0=>rfl
 | k+1=>by
  unfold bZ;rw [if_neg (by rw [lt];simpa using hn)];cases e:at_ L n with
  | none=>simp only [e]
  | some c=>simp only [e];rw [h c e];exact pO hn h k
theorem AQ {n0 k:Nat} {L:aa} {xs:List T} {t:T} (e:bZ n0 L (k+2) (.lst xs)=some t):∃ys,t=.lst ys/\xs.length=ys.length/\∀(i:Nat) y,ys[i]?=some y->∃x,xs[i]?=some x/\bZ n0 L (k+1) x=some y:=by
 unfold bZ at e;split at e
 ·rename_i hl
  cases e;rw [lt] at hl;refine⟨xs,rfl,rfl,fun i y q=>⟨y,q,?_⟩⟩;unfold bZ;rw [if_pos (gE.mp hl i y q)]
 ·obtain⟨ys,e1,rfl⟩:=QY.mp e
  obtain⟨len,at'⟩:=gF e1;exact⟨ys,rfl,len,at'⟩
theorem AR {g g':G} {L L' Lo:aa} {t t':T} {u:QN} (l:Le g g') (r0:Rel g L) (r:Rel g' L') (h:RT g' none t u) (e:wV L t L'=.ok t' Lo) :
  ∃cx,Le g cx/\Rel cx Lo/\RT cx none t' u/\(∀a b o,cx.H a=some (b,o)->∃b',g'.H a=some (b',o))/\(∀a,g'.H a=none->cx.H a=none)/\∀a o,g'.H a=some (true,o)->cx.H a=some (true,o):=by
 classical
 cases t with
 | ref n=>?_
 | _=>cases e
 cases h with
 | ref hp=>?_
 rename_i p;unfold wV at e;cases ec:at_ L' n with
 | none=>simp only [ec] at e;cases e
 | some c=>?_
 cases c with
 | lst xs=>?_
 | _=>simp only [ec] at e;cases e
 simp only [ec] at e;unfold a8 at e;split at e
 case isFalse=>cases e
 case isTrue hn =>
 obtain⟨p',hp',hcell⟩:=r.cells n _ ec;rw [hp] at hp';cases hp';generalize KP:put L' n (.ref n)=Lp at e;have G7:Lp.length=L'.length:=by rw [<- KP];exact sD
 unfold fin at e;split at e
 case isFalse=>cases e
 case isTrue ho =>
 have n0:L.length<=L'.length:=by have:=dN ec;omega
 cases ef:bZ L.length Lp 9 (.lst xs) with
 | none=>rw [ef] at e;cases e
 | some t1=>?_
 rw [ef] at e;cases e;obtain⟨ys,rfl,G8,Ph⟩:=AQ ef;have G9:∀m c,m≠n->at_ Lp m=some c->at_ L' m=some c:=fun m c hm q=>by
  rw [<- KP] at q;rcases m6 q with⟨z,_⟩|⟨_,z⟩
  ·exact absurd z hm
  ·exact z
 have M3:∀c,at_ Lp n=some c->c=.ref n:=fun c q=>by
  rw [<- KP] at q;rcases m6 q with⟨_,z⟩|⟨z,_⟩
  ·exact z
  ·exact absurd rfl z
 let nw:Rm->Prop:=fun a=>∃m q,L.length<=m/\m≠n/\at_ g'.α m=some q/\(a=q.1\/a=q.2)
 let cx:G:={ g' with H:=fun a=>if nw a then (g'.H a).map fun q=>(true,q.2) else g'.H a,α:=p::g'.α.drop (g'.α.length - L.length) }
 have hH:∀a,cx.H a=if nw a then (g'.H a).map fun q=>(true,q.2) else g'.H a:=fun _=>rfl
 have dl:(g'.α.drop (g'.α.length - L.length)).length=L.length:=by rw [Ru,r.len];omega
 have dL:(Lp.drop (Lp.length - L.length)).length=L.length:=by rw [Ru,G7];omega
 have hα:∀m,m<L.length->at_ cx.α m=at_ g'.α m:=fun m hm=>by
  have:at_ (p::g'.α.drop (g'.α.length - L.length)) m=at_ (g'.α.drop (g'.α.length - L.length)) m:=if_neg (by rw [dl];omega)
  exact this.trans (iB hm (by rw [r.len];exact n0))
 have KQ:at_ cx.α L.length=some p:=by
  have:at_ (p::g'.α.drop (g'.α.length - L.length)) (g'.α.drop (g'.α.length - L.length)).length=some p:=cT
  rw [dl] at this;exact this
 have Et:∀a o,g'.H a=some (true,o)->cx.H a=some (true,o):=fun a o q=>by
  rw [hH];split
  ·rw [q];rfl
  ·exact q
 have lS:∀a o,g'.kn true a o->cx.kn true a o:=fun a o q=>q.elim (fun q=>.inl (Et a o q)) .inr
 have va:∀m p b o,L.length<=m->m≠n->at_ g'.α m=some p->(b=p.1\/b=p.2)->g'.kn false b o->cx.kn true b o:=fun m p b o hm hne hp hb q=>by
  rcases q with q|⟨z,_⟩
  ·refine .inl ?_
   rw [hH,if_pos ⟨m,p,hm,hne,hp,hb⟩,q];rfl
  ·cases z
 have hr:∀m p,m<L.length->at_ g'.α m=some p->at_ cx.α m=some p:=fun m p hm hp=>(hα m hm).trans hp
 have vV:∀m p,m<L.length\/m=n->at_ g'.α m=some p->¬ nw p.1/\¬ nw p.2:=fun m p hm hp=>by
  refine⟨?_,?_⟩ <;>
  ·rintro⟨m',q,hm',hne,hq,hb⟩
   have ap:=r.apart m m' p q hp hq (by omega);rcases hb with hb|hb
   ·first|exact ap.1 hb|exact ap.2.2.1 hb
   ·first|exact ap.2.1 hb|exact ap.2.2.2 hb
 have BY:∀m p b o,m<L.length\/m=n->at_ g'.α m=some p->(b=p.1\/b=p.2)->g'.kn false b o->cx.kn false b o:=fun m p b o hm hp hb hk=>by
  have no:=vV m p hm hp;rcases hk with hk|⟨z,_⟩
  ·refine .inl ?_
   rw [hH,if_neg (by rcases hb with hb|hb <;> rw [hb];exact no.1;exact no.2)];exact hk
  ·cases z
 have hc:∀m c,L.length<=m->at_ Lp m=some c->(∀k,bZ L.length Lp k c=none)\/∃p,at_ g'.α m=some p/\RT g' (some p) c (.ref p.1)/\∀b o,(b=p.1\/b=p.2)->g'.kn false b o->cx.kn true b o:=fun m c hm q=>by
  by_cases z:m=n
  ·subst z
   rw [M3 c q];exact .inl (pO hn M3)
  ·obtain⟨p1,q1,q2⟩:=r.cells m c (G9 m c z q)
   exact .inr ⟨p1,q1,q2,fun b o hb=>va m p1 b o hm z q1 hb⟩
 have top:RT cx (some p) (.lst ys) (.ref p.1):=by
  cases hcell with
  | lst ht hk hz hl hi =>
   have hk':=BY n p _ _ (.inr rfl) hp (.inl rfl) hk;refine .lst ht hk' (by rw [<- G8];exact hz) (by rw [<- G8];exact hl) fun i y v q1 q2=>?_
   obtain⟨x,x1,x2⟩:=Ph i y q1;exact fo hr lS hc rfl rfl _ (hi i x v x1 q2) (fun q z=>by cases z) x2
 have KR:∀m c,m<L.length->at_ (Lp.drop (Lp.length - L.length)) m=some c->∃p,at_ cx.α m=some p/\RT cx (some p) c (.ref p.1):=fun m c hm q=>by
  have q':at_ L' m=some c:=G9 m c (by omega) ((iB hm (by rw [G7];exact n0)).symm.trans q)
  obtain⟨p1,h1,h2⟩:=r.cells m c q';have bL:M.lt L.length c=true:=by
   rcases ho m c q with z|z
   ·obtain⟨p0,_,z2⟩:=r0.cells m c z
    rw [<- r0.len];exact z2.lt
   ·exact z
  refine⟨p1,hr m p1 hm h1,h2.re hr lS rfl rfl bL (fun z=>by cases z) fun a d b o ht hb hk=>⟨ht,?_⟩⟩;rcases ht with z|z
  ·cases z
  ·cases z
   exact BY m _ b o (.inl hm) h1 hb hk
 have xI:∀m q,at_ cx.α m=some q->∃m',at_ g'.α m'=some q/\((m<L.length/\m'=m)\/(m=L.length/\m'=n)):=fun m q z=>by
  have hm:m<L.length+1:=by have:=dN z;have:m<(p::g'.α.drop (g'.α.length - L.length)).length:=this;rw [QX,dl] at this;exact this
  by_cases zz:m=L.length
  ·subst zz;rw [KQ] at z;cases z;exact⟨n,hp,.inr ⟨rfl,rfl⟩⟩
  ·have hm:m<L.length:=by omega
   exact⟨m,(hα m hm).symm.trans z,.inl ⟨hm,rfl⟩⟩
 refine⟨cx,⟨fun a o q=>Et a o (l.f a o q),fun m p q=>hr m p (by rw [<- r0.len];exact dN q) (l.α m p q),l.B,l.m,l.w⟩,⟨?_,fun m c q=>?_,fun m m' q q' h1 h2 hne=>?_,fun m q z=>?_⟩,.ref KQ,fun a b o q=>?_,fun a q=>?_,Et⟩
 ·show(p::g'.α.drop _).length=_
  rw [QX,QX,dl,dL]
 ·unfold at_ at q
  split at q
  ·rename_i em
   cases q;rw [dL] at em;subst em;exact⟨p,KQ,top⟩
  ·exact KR m c (by have:=dN q;rw [dL] at this;exact this) q
 ·obtain⟨a,a1,a2⟩:=xI m q h1
  obtain⟨b,b1,b2⟩:=xI m' q' h2;exact r.apart a b q q' a1 b1 (by omega)
 ·obtain⟨a,a1,a2⟩:=xI m q z
  obtain⟨⟨o1,h1⟩,o2,h2⟩:=r.live a q a1;have no:=vV a q (by omega) a1
  exact⟨⟨o1,by rw [hH,if_neg no.1];exact h1⟩,o2,by rw [hH,if_neg no.2];exact h2⟩
 ·rw [hH] at q
  split at q
  ·obtain⟨z,z1,z2⟩:=QY.mp q
   cases z2;exact⟨z.1,z1⟩
  ·exact⟨b,q⟩
 ·rw [hH,q];split <;> rfl
section
variable {P:RY} {w:SU} {K:Ro} {mg:Str->Option QN} {cls:Str->Option Rm} {base:Heap} {N ps:List Str} {qual:Str} {scope:Scope} {f:Rm} {g:G} {L:aa}
theorem Eu {k:Nat} {name:Str} {params:Arguments} {body:List Stmt} {dV kV doc pm fq ct oc:QN} {an od:Option Rm} {qy:Array (Option QN)} {mb:SS} (lk:K.lookup f=some ⟨oc,od,.func (S0 name qual params body scope dV kV doc pm an fq ct),qy⟩) (hcd:TY K fq qual=true) (S:jJ N ps scope)
  (v7:∀us:List QN,us.length=ps.length->bindArgs (S0 name qual params body scope dV kV doc pm an fq ct) ⟨us,[]⟩=pure (ps.zip us))
  (iD:∀(A:RH) (s:QP) (H:Hp),dS k (A.deeper (envOfC qual scope s.heap.objs.size f fq))->vD (vZ P w K mg cls base N qual scope f fq A s H) body mb) :
  dT P w K mg cls base (k+1) f (uE ps.length N.length mb):=fun {A s g L L' us xs t} hr e0 r lV=>by
 unfold uE at lV;split at lV
 ·rename_i hl
  have Jz:us.length=ps.length:=by rw [<- Q0 r];exact hl
  have KX:K.In s.heap:=e0.mod.Fq.keeps fun b o e=>(e0.bs b o e).1
  have lim:s.heap.NoLimit:=e0.mod.nolimit.keeps fun b o e=>(e0.bs b o e).1
  have hkind:∀y∈ps.zip us,scope.names.lookup y.1=some .local\/(scope.names.lookup y.1=some .cell/\((cellsFrom (s.heap.objs.size+1) scope.names []).lookup y.1).isSome=true):=fun⟨n,v⟩ hy=>by
   rcases S.par n (UR hy).1 with q|q
   ·exact .inl q
   ·exact .inr ⟨q,U3 _ _ _ (.inl q)⟩
  refine codeAny_call_function hr.depth (KX _ _ lk) rfl S.co S.gen rfl (Xn KX hcd) (BindsTo.of_eq (v7 us Jz) _ _ _ _ ?_);refine wpAny_newFunctionEnv_cells S.kind hkind fun env he s1 x=>?_
  subst he;refine⟨lim.keeps x.toInCall.keep,codeAny_func ?_⟩;have I:=mE (A:=A) (cd:=fq) S hr.hd e0 hl r x
  have nb:mb (xs.map some++Q7 (N.length - ps.length) none) L≠.bad:=fun z=>by rw [z] at lV;cases lV
  refine wpAny_mono (iD A s g.H (hr.deeper _) I nb) (fun fl s' ⟨g',l,hs⟩=>?_) fun e s' hs=>hs.elim
  cases eb:mb (xs.map some++Q7 (N.length - ps.length) none) L with
  | rt t0 L1 =>
   rw [eb] at hs lV;cases fl <;> first|exact hs.elim|skip
   obtain⟨⟨φ',J⟩,rt⟩:=hs;obtain⟨g2,l2,r2,h2,a,b,c⟩:=AR l e0.rel J.rel rt lV;exact⟨g2,J.os,J.bare,⟨J.base.keep,fun x o q n z=>b x (J.base.free x o q n z),fun x o q=>c x o (J.base.bZ x o q)⟩,fun x y o q=>let ⟨_,z⟩:=a x y o q;J.hok x _ o z,l2,r2,h2⟩
  | _=>rw [eb] at lV;cases lV
 ·cases lV
end
noncomputable def fE (s:Stmt):Arguments:=match s with
 | .FunctionDef _ a ..=>a
 | _=>⟨[],[],none,[],[],none,[]⟩
noncomputable def bodyOf (s:Stmt):List Stmt:=match s with
 | .FunctionDef _ _ b ..=>b
 | _=>[]
noncomputable def eZ (s:Stmt):Scope:=match s with
 | .FunctionDef _ _ _ _ _ _ sc ..=>sc
 | _=>⟨.function,[],false,false,[]⟩
noncomputable def Ha:NameKind->Bool
 | .local=>true
 | .cell=>true
 | _=>false
noncomputable def xJ (ps:List Str) (sc:Scope):List Str:=ps++((sc.names.filter fun y=>Ha y.2).map (·.1)).filter fun y=>!ps.contains y
noncomputable def xK (ps:List Str) (sc:Scope):Bool:=(match sc.kind with
  | .function=>true
  | _=>false) && !sc.isCoroutine && !sc.isGenerator && decide (xJ ps sc).Nodup && (ps.all fun x=>match sc.names.lookup x with
  | some k=>Ha k
  | none=>false) && (sc.names.all fun y=>match y.2 with
  | .free=>false
  | _=>true) && (xJ ps sc).all wY
structure rO (K:Ro) (x qual:Str) (st:Stmt) (f:Rm):Prop where
 ex:∃(oc:QN) (od:Option Rm) (kV doc pm:QN) (an:Option Rm) (fq ct:QN) (qy:Array (Option QN)),K.lookup f=some ⟨oc,od,.func (S0 x qual (fE st) (bodyOf st) (eZ st) .none kV doc pm an fq ct),qy⟩/\TY K fq qual=true
 kp:Si K (.ref f)=true
structure Tab (P:RY) (w:SU) (K:Ro) (mg:Str->Option QN) (cls:Str->Option Rm) (base:Heap) (n:Nat) (Γ:Ct):Prop where
 fn:∀x F,Γ.fn.lookup x=some F->(x == ("__debug__":Str))=false/\∃fa,dT P w K mg cls base n fa F/\mg x=some (.ref fa)/\Si K (.ref fa)=true
 co:∀x t,Γ.co.lookup x=some t->(x == ("__debug__":Str))=false/\∃u,mg x=some u/\∀g:G,g.B=base->g.cls=cls->g.w=w->RT g none t u
 us:∀x∈Γ.us,mg x=none/\x≠"__name__"/\(x == ("__debug__":Str))=false
 fl:∀c C,cls c=some C->ClsOk K Γ.fl C
 me:∀m mf,Γ.me.lookup m=some mf->∀c C F,cls c=some C->mf.lookup c=some F->∃fa,zH K C/\Meth K C m fa/\dT P w K mg cls base n fa F
noncomputable def Ct.uQ (Γ:Ct) (x:Str) (F:Fn):Ct:={ Γ with fn:=(x,F)::Γ.fn }
noncomputable def Ct.xM (Γ:Ct) (m c:Str) (F:Fn):Ct:={ Γ with me:=(m,(c,F)::(Γ.me.lookup m).getD [])::Γ.me }
section
variable {P:RY} {w:SU} {K:Ro} {mg:Str->Option QN} {cls:Str->Option Rm} {base:Heap} {n:Nat} {Γ:Ct} {x qual:Str} {st:Stmt} {f:Rm} {ps:List Str} {m F:Fn}
theorem dT.mono {j k:Nat} (h:dT P w K mg cls base j f m) (l:j<=k):dT P w K mg cls base k f m:=fun {_ _ _ _ _ _ _ _} hr e r q=>h (hr.mono l) e r q
theorem Tab.ct {X:Cx} (T:Tab P w K mg cls base n Γ) (h:X.prog=P/\X.w=w/\X.K=K/\X.mg=mg/\X.cls=cls/\X.base=base) (hr:dS n X.A):dj X Γ:=by
 obtain⟨rfl,rfl,rfl,rfl,rfl,rfl⟩:=h;refine⟨?_,fun x F q=>?_,T.co,T.us,T.fl,fun m mf q c C F hc hF=>?_⟩
 ·have:=hr.un;omega
 ·obtain⟨h1,fa,h2,h3,h4⟩:=T.fn x F q
  exact⟨h1,n,fa,h2,hr,h3,h4⟩
 ·obtain⟨fa,h1,h2,h3⟩:=T.me m mf q c C F hc hF
  exact⟨fa,n,h1,h2,h3,hr⟩
theorem tF (h:xK ps sc=true):jJ (xJ ps sc) ps sc/\(xJ ps sc).all wY=true:=by
 unfold xK at h;simp only [QS] at h;obtain⟨⟨⟨⟨⟨⟨h1,h2⟩,h3⟩,h4⟩,h5⟩,h6⟩,h7⟩:=h;refine⟨⟨?_,by simpa using h2,by simpa using h3,of_decide_eq_true h4,by simp [xJ],fun x hx=>?_,fun y hy e=>?_⟩,h7⟩
 ·split at h1
  ·assumption
  ·cases h1
 ·have:=QO.mp h5 x hx
  cases e:sc.names.lookup x with
  | none=>rw [e] at this;cases this
  | some k =>
   rw [e] at this;cases k <;> first|exact .inl rfl|exact .inr rfl|cases this
 ·have:=QO.mp h6 y hy
  rw [e] at this;cases this
noncomputable def Dn (rn:Nat->Nat->SS->Fn) (Γ:Ct) (ps:List Str) (st:Stmt) (m:Fn):Prop:=xK ps (eZ st)=true/\rn ps.length (xJ ps (eZ st)).length (code Γ ⟨xJ ps (eZ st),eZ st⟩ (bodyOf st))=m
theorem Tab.KS (T:Tab P w K mg cls base n Γ) (F:rO K x qual st f)
  (e:Dn run Γ ps st m)
  (hb:∀(kV doc pm:QN) (an:Option Rm) (fq ct:QN) (us:List QN),us.length=ps.length->bindArgs (S0 x qual (fE st) (bodyOf st) (eZ st) .none kV doc pm an fq ct) ⟨us,[]⟩=pure (ps.zip us)):dT P w K mg cls base (n+1) f m:=by
 obtain⟨ok,e⟩:=e;subst e;obtain⟨oc,od,kV,doc,pm,an,fq,ct,qy,l,c⟩:=F.ex;obtain⟨S,nm⟩:=tF ok;refine Gb l c S (hb kV doc pm an fq ct) fun A s H hr=>tE (T.ct ⟨rfl,rfl,rfl,rfl,rfl,rfl⟩ hr) ⟨rfl,S.nd,nm,fun _ h=>h,fun _ h=>⟨h,rfl⟩,fun x h=>absurd rfl (S.qV (x,.free) (RD h)),fun _ h=>h⟩ _
theorem Tab.Hb (T:Tab P w K mg cls base n Γ) (F:rO K x qual st f)
  (e:Dn uE Γ ps st m)
  (hb:∀(kV doc pm:QN) (an:Option Rm) (fq ct:QN) (us:List QN),us.length=ps.length->bindArgs (S0 x qual (fE st) (bodyOf st) (eZ st) .none kV doc pm an fq ct) ⟨us,[]⟩=pure (ps.zip us)):dT P w K mg cls base (n+1) f m:=by
 obtain⟨ok,e⟩:=e;subst e;obtain⟨oc,od,kV,doc,pm,an,fq,ct,qy,l,c⟩:=F.ex;obtain⟨S,nm⟩:=tF ok;refine Eu l c S (hb kV doc pm an fq ct) fun A s H hr=>tE (T.ct ⟨rfl,rfl,rfl,rfl,rfl,rfl⟩ hr) ⟨rfl,S.nd,nm,fun _ h=>h,fun _ h=>⟨h,rfl⟩,fun x h=>absurd rfl (S.qV (x,.free) (RD h)),fun _ h=>h⟩ _
theorem Tab.add (T:Tab P w K mg cls base n Γ) (hF:dT P w K mg cls base (n+1) f m) (hm:mg x=some (.ref f)) (hk:Si K (.ref f)=true) (hd:(x == ("__debug__":Str))=false):Tab P w K mg cls base (n+1) (Γ.uQ x m):=by
 refine⟨fun y F q=>?_,T.co,T.us,T.fl,fun m mf q c C F hc hF=>let ⟨fa,h1,h2,h3⟩:=T.me m mf q c C F hc hF;⟨fa,h1,h2,h3.mono (SO n)⟩⟩;have z:Wi y ((x,m)::Γ.fn)=some F:=q
 clear q;rw [Rb] at z;split at z
 ·rename_i e
  have:=eq_of_beq e;subst this;cases z;exact⟨hd,f,hF,hm,hk⟩
 ·obtain⟨h1,fa,h2,h3⟩:=T.fn y F z
  exact⟨h1,fa,h2.mono (SO n),h3⟩
theorem Tab.xM {c y:Str} {C:Rm} (T:Tab P w K mg cls base n Γ) (hF:dT P w K mg cls base (n+1) f m) (hc:cls c=some C) (h1:zH K C) (h2:Meth K C y f):Tab P w K mg cls base (n+1) (Γ.xM y c m):=by
 refine⟨fun y F q=>let ⟨h1,fa,h2,h3⟩:=T.fn y F q;⟨h1,fa,h2.mono (SO n),h3⟩,T.co,T.us,T.fl,fun y' mf q c' C' F hc' hF'=>?_⟩;have z:Wi y' ((y,(c,m)::(Γ.me.lookup y).getD [])::Γ.me)=some mf:=q
 clear q;have old:∀mf,Γ.me.lookup y'=some mf->mf.lookup c'=some F->∃fa,zH K C'/\Meth K C' y' fa/\dT P w K mg cls base (n+1) fa F:=fun mf q z =>
  let ⟨fa,h1,h2,h3⟩:=T.me y' mf q c' C' F hc' z;⟨fa,h1,h2,h3.mono (SO n)⟩
 rw [Rb] at z;split at z
 ·rename_i e
  have:=eq_of_beq e;subst this;cases z;rw [Rb] at hF';split at hF'
  ·rename_i e2
   have:=eq_of_beq e2;subst this;cases hF';rw [hc] at hc';cases hc';exact⟨f,h1,h2,hF⟩
  ·cases eo:Γ.me.lookup y' with
   | none=>rw [eo] at hF';cases hF'
   | some mf=>rw [eo] at hF';exact old mf eo hF'
 ·exact old mf z hF'
theorem pP:∀{g:G} {vs:List QN} {ns:List Int},IntsAre vs ns->bM g (ns.map T.int) vs
 | _,_,_,.nil=>.nil
 | _,_,_,.cons n t h=>.cons (.int n t) (pP h)
theorem xN {mb:Str->Option QN} {k:Nat} {fa a:Rm} {s₁:QP} {vs:List QN} {ns:List Int}
  (KX:K.In s₁.heap) (Pj:s₁.heap.Ns RR mg) (hb:s₁.heap.Ns builtinsNs mb) (Pk:∀x:Str,x≠"__name__"->mb x=bootBuiltins x) (KU:s₁.heap.NoLimit) (hg:s₁.gens = #[])
  (ha:s₁.heap.get? a=some { cls:=.type "list",data:=.seq vs.toArray }) (hi:IntsAre vs ns) (hl:ns.length<=Q9) (hr:dS k callerA)
  (hF:dT P w K mg cls s₁.heap k fa m) (hm:∃L',m [.lst (ns.map .int)] []=.ok (.bl true) L') :
  codeAny (model P w) callerA (.call (.ref fa) ⟨[.ref a],[]⟩) (fun r s'=>r=.ok (.ret (.bool true))/\OldK s₁.heap s'.heap/\s'.os=s₁.os/\AllBare s'.gens) s₁:=by
 obtain⟨L',hm⟩:=hm
 let g:G:=⟨fun _=>none,[],s₁.heap,cls,w⟩
 have r:bM g [.lst (ns.map T.int)] [.ref a]:=.cons ((pP hi).lst (o:=default) (Le.refl g) (.inl rfl) (.inr ⟨rfl,ha⟩) (by simpa using hl)) .nil;have e0:uj P w K mg cls s₁.heap s₁ g []:=⟨⟨KX,Pj,⟨mb,hb,Pk⟩,KU⟩,fun b o e=>⟨e,rfl⟩,Q3 _,fun a b o z=>(by cases z),.of_eq hg,⟨rfl,fun n c z=>(by cases z),fun n m p q z=>(by cases z),fun n p z=>(by cases z)⟩,rfl,rfl,rfl⟩
 refine codeAny_mono (hF hr e0 r hm) fun r s' h=>?_
 cases r with
 | error e=>exact V3 h
 | ok fl =>
  cases fl with
  | ret u =>
   obtain⟨g',os,bare,un,hok,l,rel,rt⟩:=h;cases rt;exact⟨rfl,OldK.of_keep fun b o e=>un.keep b o e rfl (by simp),os,bare⟩
  | _=>exact V3 h
end
end M
namespace M4
open PySem PySem.W PySem.Calls PyProof.Rows
theorem jD {P:Params} {h:Heap}:∀(ns:List Int) (vs:List QN),WellAll P h vs (ns.map WData.int)->IntsAre vs ns:=by
 intro ns;induction ns with
 | nil =>
  intro vs w;rw [UP] at w;cases w;exact .nil
 | cons n ns ih =>
  intro vs w;rw [Q4] at w;cases w with
  | cons a b =>
   cases a;exact .cons _ _ (ih _ b)
theorem uR {l:OpenLaw} {n:Nat} (hn:l.most=some n) {P:Params} {h:Heap} {args:List WData} {vals:List QN}
  (hpre:l.row.toRowW.claim.pre args=true) (hwl:WellAll P h vals args) :
  ∃a vs ns,vals=[Sz a]/\args=[WData.list (ns.map WData.int)]/\h.get? a=some { cls:=.type "list",data:=.seq vs.toArray }/\IntsAre vs ns/\ns.length<=n:=by
 have Pl:WShape.hasAll [] args [.list .int]=true:=(pre_splitW hpre).1;have hc:l.pre.holds [] { args:=args }=true:=(pre_splitW hpre).2
 obtain⟨d,r,rfl,h1,h2⟩:=hasAllW_cons Pl;obtain rfl:=hasAllW_nil h2;obtain⟨xs,rfl,h3⟩:=hasW_list h1;obtain⟨ns,rfl⟩:=items_int h3;have hlen:ns.length<=n:=by
  unfold OpenLaw.pre at hc;have h4:(WTm.not (.lt (.lit (.int (n:Int))) (.len (.arg 0)))).holds [] { args:=[.list (ns.map .int)] }=true:=by
   have h4:=(holds_andW hc).1;rw [hn] at h4;exact h4
  have h5:=condW_of h4 (w_not (w_lt w_lit (w_len_list (w_arg rfl))));rw [Lm9] at h5;refine Nat.le_of_not_lt fun q=>?_
  have q':(n:Int)<((ns.length:Nat):Int):=by omega
  first
   | (rw [decide_eq_true q'] at h5;exact absurd h5 (by decide))
   | (simp at h5;omega)
 cases hwl with
 | cons w1 w2 =>
  cases w2;cases w1 with
  | list ho hall=>exact⟨_,_,ns,rfl,rfl,ho,jD ns _ hall,hlen⟩
theorem uS (l:OpenLaw) (args:List WData):l.row.toRowW.claim.post args (.bool true) args=true :=
 postW_of (r:=l.row.toRowW) (X:=(true == true))
  (show WShape.has [] (.bool true) .bool=true by first|rfl|decide|simp [WShape.has,WShape.arms,WShape.armsAll])
  (show(WTm.eq .res (.lit (.bool true))).value [] { args:=args,res:=some (.bool true),after:=args }=some (.bool (true == true)) from w_eq_bool (w_res rfl) w_lit) rfl
theorem pQ {l:OpenLaw} {n:Nat} {q:RY} {loose:List Str} {XP:(Str->Option QN)->Heap->Prop} {YP:SU->Heap->Prop} {d:DefRec}
  (hn:l.most=some n) (KV:d.params.defaults=[])
  (call:∀(w:SU) (s₀ s₁:QP) (mg mb:Str->Option QN) (fa:Rm) (o:Obj) (pm cd doc:QN) (a:Rm) (vs:List QN) (ns:List Int),
   Ground q loose [] XP w s₀ mg mb s₁.heap->YP w s₁.heap ->
   s₁.heap.get? fa=some o->o.data=.func (docDef d.name d.params d.body d.scope pm cd doc)->s₁.heap.CodeRec cd d.name->mg d.name=some (.ref fa) ->
   s₁.heap.get? a=some { cls:=.type "list",data:=.seq vs.toArray }->IntsAre vs ns->ns.length<=n->s₁.gens = #[] ->
   codeAny (model l.prog w) callerA (.call (.ref fa) ⟨[.ref a],[]⟩) (fun r s'=>r=.ok (.ret (.bool true))/\OldK s₁.heap s'.heap/\s'.os=s₁.os/\AllBare s'.gens) s₁) :
  WalkO q loose XP YP l.row.toRowW d [] (fun f vs=>PySem.call f vs):=by
 intro w s₀ s₁ mg mb G Y fa o pm cd doc dV kV ho hd hcd hD hmg hg args vals as hpre hlay hrd hwl hlo;obtain rfl:dV=.none:=Dflts.none hD KV;obtain rfl:kV=.none:=Dflts.noKw hD;obtain⟨a,vs,ns,rfl,rfl,Ew,hints,hlen⟩:=uR hn hpre hwl;refine enter_call (codeAny_mono (call w s₀ s₁ mg mb fa o pm cd doc a vs ns G Y ho (fd_plain hd) hcd hmg Ew hints hlen hg) fun r s' hq=>?_);obtain⟨rfl,h2,h3,h4⟩:=hq;exact⟨.inl ⟨.bool true,.bool true,[],rfl,fun _=>rfl,.bool true,uS l _,fun _=>⟨Xx,fun _ hm=>(nomatch hm)⟩⟩,h2,h3,h4⟩
end M4
namespace M
open PySem PySem.Spec PyProof.Rows
theorem AS {l:PySem.W.OpenLaw} {n k:Nat} {q:RY} {loose:List Str} {XP:(Str->Option QN)->Heap->Prop} {YP:SU->Heap->Prop} {d:DefRec} {K:Params->Ro} {m:Fn}
  (hn:l.most=some n) (By:n<=Q9) (KV:d.params.defaults=[]) (hr:dS k callerA) (hY:∀(w:SU) (h:Heap),YP w h->(K w.params).In h)
  (F:∀(w:SU) (mg:Str->Option QN) (fa:Rm) (h:Heap),(K w.params).In h->h.Ns RR mg->mg d.name=some (.ref fa)->∃cls,∀base:Heap,(K w.params).In base->base.Ns RR mg->dT l.prog w (K w.params) mg cls base k fa m)
  (hm:∀ns:List Int,ns.length<=n->∃L',m [.lst (ns.map .int)] []=.ok (.bl true) L'):PySem.W.WalkO q loose XP YP l.row.toRowW d [] (fun f vs=>PySem.call f vs):=by
 refine M4.pQ hn KV fun w s₀ s₁ mg mb fa o pm cd doc a vs ns G Y ho hd hcd hmg Ew hints hlen hg=>?_
 have KX:=hY w _ Y;obtain⟨cls,hF⟩:=F w mg fa _ KX G.T.g hmg;exact xN KX G.T.g G.T.b G.T.builtins G.T.nolimit hg Ew hints (Ra hlen By) hr (hF _ KX G.T.g) (hm ns hlen)
theorem rP {K:Ro} {x qual:Str} {st:Stmt} {f:Rm} {oc:QN} {od an:Option Rm} {qy:Array (Option QN)} {kV doc pm fq ct:QN} (l:K.lookup f=some ⟨oc,od,.func (S0 x qual (fE st) (bodyOf st) (eZ st) .none kV doc pm an fq ct),qy⟩)
  (c:TY K fq qual=true) (k:Si K (.ref f)=true):rO K x qual st f:=⟨⟨oc,od,kV,doc,pm,an,fq,ct,qy,l,c⟩,k⟩
noncomputable def KW (K:Ro) (x:Str) (st:Stmt) (f:Rm):Prop:=Sj K RR x=some (some (.ref f))/\rO K x x st f
theorem b0 {Pr:List QN->Prop} (h:Pr []):∀us:List QN,us.length=0->Pr us:=fun us e=>by cases us;exact h;cases e
theorem bC {n:Nat} {Pr:List QN->Prop} (h:∀q us,us.length=n->Pr (q::us)):∀us:List QN,us.length=n+1->Pr us:=fun us e=>by
 cases us
 ·cases e
 ·exact h _ _ (Nat.succ.inj e)
section
variable {P:RY} {w:SU} {K:Ro} {mg:Str->Option QN} {cls:Str->Option Rm} {base h:Heap} {n:Nat} {Γ:Ct} {x:Str} {st:Stmt} {f:Rm} {m:Fn}
theorem Tab.mono (T:Tab P w K mg cls base n Γ):Tab P w K mg cls base (n+1) Γ :=
 ⟨fun y F q=>let ⟨h1,fa,h2,h3⟩:=T.fn y F q;⟨h1,fa,h2.mono (SO n),h3⟩,T.co,T.us,T.fl,fun m mf q c C F hc hF=>let ⟨fa,h1,h2,h3⟩:=T.me m mf q c C F hc hF;⟨fa,h1,h2,h3.mono (SO n)⟩⟩
theorem Tab.Pm {cn:Str} {C:Rm} (T:Tab P w K mg cls base n Γ) (hF:dT P w K mg cls base (n+1) f m) (Q:Mk K C f) (hc:cls cn=some C) (hm:mg cn=some (.ref C)) (hd:(cn == ("__debug__":Str))=false):Tab P w K mg cls base (n+2) (Γ.uQ cn (make cn m)) :=
 T.mono.add (Gd Q hF hc) hm Q.kp hd
end
noncomputable def AllP {α:Type} (p:α->Prop):List α->Prop
 | []=>True
 | a::r=>p a/\AllP p r
theorem AllP.of {α:Type} {p:α->Prop}:∀{l:List α},AllP p l->∀a∈l,p a
 | _::_,h,a,m=>by
  rcases Q5.mp m with rfl|m
  ·exact h.1
  ·exact AllP.of h.2 a m
noncomputable def tp (B:List Stmt) (i:Nat):Stmt:=B.getD i (.Pass ⟨0,0,0,0⟩)
noncomputable def vq (s:Stmt) (j:Nat):Stmt:=match s with
 | .ClassDef _ _ _ b ..=>b.getD j (.Pass ⟨0,0,0,0⟩)
 | _=>s
noncomputable def nY (s:Stmt):List Str:=(fE s).args.map (·.arg)
mutual
noncomputable def uT (K:Ro):T->QN->Prop
 | .bl b,u=>u=.bool b
 | .int i,u=>∃t,u=.int i t
 | .str s,u=>s.length<=Q9/\∃t,u=.str ⟨s.toArray⟩ t
 | .tup xs,u=>∃a us n s,u=.ref a/\K.lookup a=some ⟨.type "tuple",none,.seq us n,s⟩/\xs.length<=Q9/\dw K xs us.toList
 | _,_=>False
noncomputable def dw (K:Ro):List T->List QN->Prop
 | [],us=>us=[]
 | x::xs,us=>∃v vs,us=v::vs/\uT K x v/\dw K xs vs
end
mutual
theorem uT.rt {K:Ro} {g:G} (KB:K.In g.B):∀(t:T) (u:QN),uT K t u->RT g none t u
 | .bl b,u,h=>(show u=.bool b from h) ▸ .bl b
 | .int i,u,h=>by obtain⟨t,rfl⟩:∃t,u=.int i t:=h;exact .int i t
 | .str s,u,h=>by obtain⟨h,t,rfl⟩:s.length<=Q9/\∃t,u=.str ⟨s.toArray⟩ t:=h;exact .str s t h
 | .tup xs,u,h=>by
  obtain⟨a,us,n,s,rfl,l,hz,r⟩:∃a us n s,u=.ref a/\K.lookup a=some ⟨.type "tuple",none,.seq us n,s⟩/\xs.length<=Q9/\dw K xs us.toList:=h;exact bM.tup (us:=us.toList) (n:=n) (dw.rt KB xs _ r) (.refl _) (.inr ⟨rfl,KB _ _ l⟩) ⟨rfl,rfl⟩ (by simp) hz
 | .bj,_,h=>(show False from h).elim
 | .cl _,_,h=>(show False from h).elim
 | .ref _,_,h=>(show False from h).elim
 | .lst _,_,h=>(show False from h).elim
 | .ah _,_,h=>(show False from h).elim
 | .obj _ _,_,h=>(show False from h).elim
theorem dw.rt {K:Ro} {g:G} (KB:K.In g.B):∀(xs:List T) (us:List QN),dw K xs us->bM g xs us
 | [],us,h=>(show us=[] from h) ▸ .nil
 | x::xs,us,h=>by
  obtain⟨v,vs,rfl,h1,h2⟩:∃v vs,us=v::vs/\uT K x v/\dw K xs vs:=h;exact .cons (uT.rt KB x v h1) (dw.rt KB xs vs h2)
end
inductive Df
 | f (b:Bool) (x:Str) (k i:Nat) (m:Fn)
 | mt (c y q:Str) (k i j:Nat) (m:Fn)
 | mk (c q:Str) (k i j:Nat) (m:Fn)
def M5:Bool->Nat->Nat->SS->Fn
 | true=>uE
 | false=>run
noncomputable def BA (k:Nat) (x q:Str) (st:Stmt):Prop:=∀(kV doc pm:QN) (an:Option Rm) (fq ct:QN) (us:List QN),us.length=k->bindArgs (S0 x q (fE st) (bodyOf st) (eZ st) .none kV doc pm an fq ct) ⟨us,[]⟩=pure ((nY st).zip us)
structure Ex (b:Bool) (k:Nat) (Γ:Ct) (x q:Str) (st:Stmt) (m:Fn):Prop where
 d:(xK (nY st) (eZ st) && (nY st).length == k && !(x == ("__debug__":Str)))=true
 e:M5 b k (xJ (nY st) (eZ st)).length (code Γ ⟨xJ (nY st) (eZ st),eZ st⟩ (bodyOf st))=m
 a:BA k x q st
noncomputable def Df.ok (B:List Stmt) (Γ:Ct):Df->Prop
 | .f b x k i m=>Ex b k Γ x x (tp B i) m
 | .mt _ y q k i j m=>Ex false k Γ y q (vq (tp B i) j) m
 | .mk c q k i j m=>Ex false k Γ "__init__" q (vq (tp B i) j) m/\(c == ("__debug__":Str))=false
def Df.add (Γ:Ct):Df->Ct
 | .f _ x _ _ m=>Γ.uQ x m
 | .mt c y _ _ _ _ m=>Γ.xM y c m
 | .mk c _ _ _ _ m=>Γ.uQ c (make c m)
noncomputable def Df.n:Df->Nat
 | .mk ..=>2
 | _=>1
def adds:Ct->List Df->Ct
 | Γ,[]=>Γ
 | Γ,d::ds=>adds (d.add Γ) ds
noncomputable def dep:List Df->Nat
 | []=>0
 | d::ds=>d.n+dep ds
noncomputable def xO (B:List Stmt):Ct->List Df->Prop
 | _,[]=>True
 | Γ,d::ds=>d.ok B Γ/\xO B (d.add Γ) ds
noncomputable def BZ (B:List Stmt) (K:Ro) (cn:List Str):Df->Prop
 | .f _ x _ i _=>∃f,KW K x (tp B i) f
 | .mt c y q _ i j _=>cn.contains c=true/\∃C f,Sj K RR c=some (some (.ref C))/\R8 K (.ref C) y=some (some (.ref f))/\UM K (.ref f)=true/\rO K y q (vq (tp B i) j) f
 | .mk c q _ i j _=>cn.contains c=true/\∃C f,Sj K RR c=some (some (.ref C))/\R8 K (.ref C) "__init__"=some (some (.ref f))/\UM K (.ref f)=true/\rO K "__init__" q (vq (tp B i) j) f
noncomputable def Ey (K:Ro) (p:Str × T):Prop:=∃u,Sj K RR p.1=some (some u)/\uT K p.2 u
noncomputable def KY (K:Ro) (x:Str):Prop:=Sj K RR x=some none
noncomputable def AU (K:Ro) (fl:List Str) (c:Str):Prop:=∃C,Sj K RR c=some (some (.ref C))/\zH K C/\Vv K C=true/\Si K (.ref C)=true/\AllP (h8 K C) fl
noncomputable def pR (K:Ro) (cn:List Str) (c:Str):Option Rm:=match cn.contains c,Sj K RR c with
 | true,some (some (.ref C))=>some C
 | _,_=>none
theorem tG {K:Ro} {cn:List Str} {c:Str} {C:Rm} (h:cn.contains c=true) (e:Sj K RR c=some (some (.ref C))):pR K cn c=some C:=by
 unfold pR;rw [h,e]
theorem xP {K:Ro} {cn:List Str} {c:Str} {C:Rm} (h:pR K cn c=some C):c∈cn/\Sj K RR c=some (some (.ref C)):=by
 unfold pR at h;split at h
 ·rename_i h1 h2
  cases h;exact⟨by simpa using h1,h2⟩
 ·cases h
section
variable {P:RY} {w:SU} {K:Ro} {mg:Str->Option QN} {base h:Heap} {B:List Stmt} {cn fl:List Str}
theorem Ex.fn {cls:Str->Option Rm} {n k:Nat} {Γ:Ct} {x q:Str} {st:Stmt} {f:Rm} {m:Fn} {b:Bool} (D:Ex b k Γ x q st m) (T:Tab P w K mg cls base n Γ) (F:rO K x q st f):dT P w K mg cls base (n+1) f m/\(x == ("__debug__":Str))=false:=by
 obtain⟨d,e,a⟩:=D;simp only [QS,beq_iff_eq,Bool.not_eq_true'] at d;obtain⟨⟨d,rfl⟩,d2⟩:=d;refine⟨?_,d2⟩;cases b with
 | true=>exact T.Hb F ⟨d,e⟩ a
 | false=>exact T.KS F ⟨d,e⟩ a
theorem Tab.all (X:K.In h) (G:h.Ns RR mg) (hc:AllP (AU K fl) cn):∀(ds:List Df) {n:Nat} {Γ:Ct},Tab P w K mg (pR K cn) base n Γ->xO B Γ ds->AllP (BZ B K cn) ds->Tab P w K mg (pR K cn) base (n+dep ds) (adds Γ ds)
 | [],_,_,T,_,_=>by exact T
 | .f b x k i m::ds,n,Γ,T,o,p=>by
  obtain⟨⟨f,F⟩,p⟩:=p;obtain⟨h1,h2⟩:=o.1.fn T F.2;have:=Tab.all X G hc ds (T.add h1 (Xt X G F.1) F.2.kp h2) o.2 p
  rw [Ul] at this;exact this
 | .mt c y q k i j m::ds,n,Γ,T,o,p=>by
  obtain⟨⟨hm,C,f,e,fi,is,F⟩,p⟩:=p;obtain⟨C',e',ck,mk,kc,_⟩:=hc.of c (by simpa using hm);rw [e] at e';cases e';have:=Tab.all X G hc ds (T.xM (o.1.fn T F).1 (tG hm e) ck ⟨fi,is,F.kp⟩) o.2 p
  rw [Ul] at this;exact this
 | .mk c q k i j m::ds,n,Γ,T,o,p=>by
  obtain⟨⟨hm,C,f,e,fi,is,F⟩,p⟩:=p;obtain⟨C',e',ck,mk,kc,_⟩:=hc.of c (by simpa using hm);rw [e] at e';cases e';have:=Tab.all X G hc ds (T.Pm (o.1.1.fn T F).1 ⟨mk,fi,is,kc⟩ (tG hm e) (Xt X G e) o.1.2) o.2 p
  rw [Ul] at this;exact this
theorem Ez {fa:Rm} (B:List Stmt) (Γ:Ct) (cn:List Str) (ds:List Df) {k:Nat} {m:Fn} (X:K.In h) (G:h.Ns RR mg) (Pn:mg "law"=some (.ref fa)) (o:xO B Γ ds) (hk:dep ds=k) (hm:(adds Γ ds).fn.lookup ("law":Str)=some m) (h0:Γ.fn=[]/\Γ.me=[])
  (hd:((Γ.co.all fun p=>!(p.1 == ("__debug__":Str))) && Γ.us.all fun x=>!(x == ("__debug__":Str)) && !(x == ("__name__":Str)))=true)
  (c1:AllP (Ey K) Γ.co) (c2:AllP (KY K) Γ.us) (c3:AllP (AU K Γ.fl) cn) (c4:AllP (BZ B K cn) ds):∃cls,∀base:Heap,K.In base->base.Ns RR mg->dT P w K mg cls base k fa m:=by
 refine⟨pR K cn,fun base KB _=>?_⟩;simp only [QS,QO,Bool.not_eq_true'] at hd;have T0:Tab P w K mg (pR K cn) base 0 Γ:=by
  refine⟨fun x F q=>by(rw [h0.1] at q;cases q),fun x t q=>?_,fun x hx=>⟨PySem.W.mg_none_of X G (c2.of x hx),fun z=>?_,(hd.2 x hx).1⟩,fun c C e=>?_,fun y mf q=>by(rw [h0.2] at q;cases q)⟩
  ·have hm:=RD q
   obtain⟨u,h1,h2⟩:=c1.of _ hm;exact⟨hd.1 _ hm,u,Xt X G h1,fun g hB _ _=>h2.rt (by rw [hB];exact KB)⟩
  ·have:=(hd.2 x hx).2;rw [z] at this;exact absurd this (by decide)
  ·obtain⟨h1,h2⟩:=xP e
   obtain⟨C',e',ck,_,_,na⟩:=c3.of c h1;rw [h2] at e';cases e';exact⟨ck,na.of⟩
 have T:=Tab.all X G c3 ds T0 o c4;rw [Nat.zero_add,hk] at T;obtain⟨_,QG,h1,h2,_⟩:=T.fn _ _ hm;rw [Pn] at h2;cases h2;exact fun {_ _ _ _ _ _ _ _} a b c d=>h1 a b c d
theorem Hc {α:Type} {p:α->Prop}:AllP p []:=trivial
theorem KZ {Γ:Ct}:xO B Γ []:=trivial
theorem K0 {x:Str} {l:List Str} (h:Sj K RR x=some none) (r:AllP (KY K) l):AllP (KY K) (x::l):=⟨h,r⟩
theorem K1 {C:Rm} {x:Str} {l:List Str} (h:R8 K (.ref C) x=some none) (r:AllP (h8 K C) l):AllP (h8 K C) (x::l):=⟨h,r⟩
theorem K2 {x:Str} {C:Rm} {l:List Str} (h:Sj K RR x=some (some (.ref C))) (pg:UH K C Str.empty=true) (hd:Va K C=true) (po:V2 K C=true) (sa:R8 K (.ref C) "__setattr__"=some (some (.builtin "object.__setattr__"))) (mk:Vv K C=true) (kc:Si K (.ref C)=true) (na:AllP (h8 K C) fl) (r:AllP (AU K fl) l):AllP (AU K fl) (x::l):=⟨⟨C,h,⟨pg,hd,po,sa⟩,mk,kc,na⟩,r⟩
theorem K3 {x:Str} {b:Bool} {k i:Nat} {m:Fn} {ds:List Df} {f:Rm} {oc:QN} {od an:Option Rm} {qy:Array (Option QN)} {kV doc pm fq ct:QN} (n:Sj K RR x=some (some (.ref f))) (l:K.lookup f=some ⟨oc,od,.func (S0 x x (fE (tp B i)) (bodyOf (tp B i)) (eZ (tp B i)) .none kV doc pm an fq ct),qy⟩)
  (c:TY K fq x=true) (kp:Si K (.ref f)=true) (r:AllP (BZ B K cn) ds):AllP (BZ B K cn) (.f b x k i m::ds):=⟨⟨f,n,rP l c kp⟩,r⟩
theorem He {cl y q:Str} {k i j:Nat} {m:Fn} {ds:List Df} {C f:Rm} {oc:QN} {od an:Option Rm} {qy:Array (Option QN)} {kV doc pm fq ct:QN} (n:Sj K RR cl=some (some (.ref C))) (fi:R8 K (.ref C) y=some (some (.ref f))) (is:UM K (.ref f)=true) (l:K.lookup f=some ⟨oc,od,.func (S0 y q (fE (vq (tp B i) j)) (bodyOf (vq (tp B i) j)) (eZ (vq (tp B i) j)) .none kV doc pm an fq ct),qy⟩)
  (c:TY K fq q=true) (kp:Si K (.ref f)=true) (hc:cn.contains cl=true) (r:AllP (BZ B K cn) ds):AllP (BZ B K cn) (.mt cl y q k i j m::ds):=⟨⟨hc,C,f,n,fi,is,rP l c kp⟩,r⟩
theorem Hf {cl q:Str} {k i j:Nat} {m:Fn} {ds:List Df} {C f:Rm} {oc:QN} {od an:Option Rm} {qy:Array (Option QN)} {kV doc pm fq ct:QN} (n:Sj K RR cl=some (some (.ref C))) (fi:R8 K (.ref C) "__init__"=some (some (.ref f))) (is:UM K (.ref f)=true) (l:K.lookup f=some ⟨oc,od,.func (S0 "__init__" q (fE (vq (tp B i) j)) (bodyOf (vq (tp B i) j)) (eZ (vq (tp B i) j)) .none kV doc pm an fq ct),qy⟩)
  (c:TY K fq q=true) (kp:Si K (.ref f)=true) (hc:cn.contains cl=true) (r:AllP (BZ B K cn) ds):AllP (BZ B K cn) (.mk cl q k i j m::ds):=⟨⟨hc,C,f,n,fi,is,rP l c kp⟩,r⟩
theorem K4 {Γ:Ct} {b:Bool} {x:Str} {k i:Nat} {m:Fn} {ds:List Df} (r:xO B (Γ.uQ x m) ds) (d:(xK (nY (tp B i)) (eZ (tp B i)) && (nY (tp B i)).length == k && !(x == ("__debug__":Str)))=true:=by decide +kernel) (e:M5 b k (xJ (nY (tp B i)) (eZ (tp B i))).length (code Γ ⟨xJ (nY (tp B i)) (eZ (tp B i)),eZ (tp B i)⟩ (bodyOf (tp B i)))=m:=by kernel_rfl) (a:BA k x x (tp B i):=by intro _ _ _ _ _ _;(repeat refine bC fun _=>?_);exact b0 (by kernel_rfl)):xO B Γ (.f b x k i m::ds):=⟨⟨d,e,a⟩,r⟩
theorem Hg {Γ:Ct} {c y q:Str} {k i j:Nat} {m:Fn} {ds:List Df} (r:xO B (Γ.xM y c m) ds) (D:Ex false k Γ y q (vq (tp B i) j) m:=by exact⟨by decide +kernel,by kernel_rfl,by intro _ _ _ _ _ _;(repeat refine bC fun _=>?_);exact b0 (by kernel_rfl)⟩):xO B Γ (.mt c y q k i j m::ds):=⟨D,r⟩
theorem Hh {Γ:Ct} {c q:Str} {k i j:Nat} {m:Fn} {ds:List Df} (r:xO B (Γ.uQ c (make c m)) ds) (D:Ex false k Γ "__init__" q (vq (tp B i) j) m:=by exact⟨by decide +kernel,by kernel_rfl,by intro _ _ _ _ _ _;(repeat refine bC fun _=>?_);exact b0 (by kernel_rfl)⟩) (h:(c == ("__debug__":Str))=false:=by decide):xO B Γ (.mk c q k i j m::ds):=⟨⟨D,h⟩,r⟩
theorem xQ {x:Str} {s:Cs} {t:Tok} {l:List (Str × T)} (h:Sj K RR x=some (some (.str ⟨s.toArray⟩ t))) (z:s.length<=Q9) (r:AllP (Ey K) l):AllP (Ey K) ((x,.str s)::l):=⟨⟨_,h,by rw [uT];exact⟨z,t,rfl⟩⟩,r⟩
theorem K5 {x:Str} {i:Int} {t:Tok} {l:List (Str × T)} (h:Sj K RR x=some (some (.int i t))) (r:AllP (Ey K) l):AllP (Ey K) ((x,.int i)::l):=⟨⟨_,h,by rw [uT];exact⟨t,rfl⟩⟩,r⟩
theorem xR {x:Str} {xs:List T} {a:Rm} {us:Array QN} {n:Nat} {s:Array (Option QN)} {l:List (Str × T)} (h:Sj K RR x=some (some (.ref a))) (e:K.lookup a=some ⟨.type "tuple",none,.seq us n,s⟩) (z:xs.length<=Q9) (q:dw K xs us.toList) (r:AllP (Ey K) l):AllP (Ey K) ((x,.tup xs)::l):=⟨⟨_,h,by rw [uT];exact⟨a,us,n,s,rfl,e,z,q⟩⟩,r⟩
theorem lh:dw K [] []:=by rw [dw]
theorem jE {s:Cs} {t:Tok} {xs:List T} {vs:List QN} (z:s.length<=Q9) (q:dw K xs vs):dw K (.str s::xs) (.str ⟨s.toArray⟩ t::vs):=by rw [dw];exact⟨_,_,rfl,by rw [uT];exact⟨z,t,rfl⟩,q⟩
theorem Hi {b:Bool} {xs:List T} {vs:List QN} (q:dw K xs vs):dw K (.bl b::xs) (.bool b::vs):=by rw [dw];exact⟨_,_,rfl,by rw [uT],q⟩
theorem Po {i:Int} {t:Tok} {xs:List T} {vs:List QN} (q:dw K xs vs):dw K (.int i::xs) (.int i t::vs):=by rw [dw];exact⟨_,_,rfl,by rw [uT];exact⟨t,rfl⟩,q⟩
theorem uU {ys:List T} {a:Rm} {us:Array QN} {n:Nat} {s:Array (Option QN)} {xs:List T} {vs:List QN} (e:K.lookup a=some ⟨.type "tuple",none,.seq us n,s⟩) (z:ys.length<=Q9) (p:dw K ys us.toList) (q:dw K xs vs):dw K (.tup ys::xs) (.ref a::vs):=by rw [dw];exact⟨_,_,rfl,by rw [uT];exact⟨a,us,n,s,rfl,e,z,p⟩,q⟩
end
end M
namespace M
open PySem
theorem fin_same {L:aa} {t:T} (h:lt L.length t=true):fin L t L=.ok t L:=by
 unfold fin;rw [if_pos (show old L (L.drop (L.length - L.length)) from fun n c e=>.inl (by simpa using e))];simp only [Nat.sub_self,List.drop_zero];unfold bZ;rw [if_pos h];rfl
theorem ao {α β:Type} (a:α) (L:aa) (f:α->aa->R β):(R.ok a L).bind f=f a L:=rfl
theorem of_ok {α:Type} (a:α) (L:aa) (f:α->aa->O):O.of (.ok a L) f=f a L:=rfl
theorem aY (φ:Fr) (L:aa) (f:Fr->aa->O):(O.nx φ L).next f=f φ L:=Eq.trans rfl rfl
theorem AV (t:T) (L:aa) (f:Fr->aa->O):(O.rt t L).next f=.rt t L:=rfl
theorem cm (t:T) (L:aa):lift (some t) L=.ok t L:=rfl
theorem EA {α β:Type} (f:α->β) (a:α) (L:aa):R.map f (.ok a L)=.ok (f a) L:=rfl
theorem aP {α:Type} {c:Prop} [Decidable c] {r:R α} (h:c):a8 c r=r:=if_pos h
theorem xS {L:aa} {b:Bool}:fin L (.bl b) L=.ok (.bl b) L:=fin_same (by simp [lt])
theorem AW {L:aa} {b:Int}:fin L (.int b) L=.ok (.int b) L:=fin_same (by simp [lt])
theorem AX {L:aa} {b:Cs}:fin L (.str b) L=.ok (.str b) L:=fin_same (by simp [lt])
theorem AY {L:aa}:fin L .bj L=.ok .bj L:=fin_same (by simp [lt])
theorem eK {xs:List T} {i:Nat} {x:T} {L:aa} (h:xs[i]?=some x):ix (.lst xs) (.int i) L=.ok x L:=by
 obtain⟨hi,e⟩:=Q2.mp h;simp [ix,vw,place,hi,e,lift]
theorem EB {α:Type} {b:Bool} {x y:α} {L:aa}:(if b=true then R.ok x L else R.ok y L)=R.ok (if b=true then x else y) L:=by cases b <;> rfl
theorem FI (i:Nat) (φ:Fr) (L:aa):v i φ L=((lift ((φ[i]?).join) L):R T):=rfl
theorem K6 (x:T) (φ:Fr) (L:aa):c x φ L=((.ok x L):R T):=rfl
theorem K7 (a:SE) (f:T->aa->R T) (φ:Fr) (L:aa):b1 a f φ L=(((a φ L).bind f):R T):=rfl
theorem Hj (a b:SE) (f:T->T->aa->R T) (φ:Fr) (L:aa):b2 a b f φ L=(((a φ L).bind fun x L1=>(b φ L1).bind fun y L2=>f x y L2):R T):=rfl
theorem EC (op mv:CmpOp) (a b d:SE) (φ:Fr) (L:aa):uc op mv a b d φ L=(((a φ L).bind fun x L1=>(b φ L1).bind fun y L2=>(y9 op x y L2).bind fun k L3=>if k=true then (d φ L3).bind fun z L4=>cmp mv y z L4 else .ok (.bl false) L3):R T):=rfl
theorem Hk (a:SE) (φ:Fr) (L:aa):tv a φ L=(((a φ L).bind fun x L1=>match x with
 | .bl b=>.ok b L1
 | _=>.bad):R Bool):=rfl
theorem ED (a b:ST) (φ:Fr) (L:aa):zc a b φ L=(((a φ L).bind fun x L1=>if x=true then b φ L1 else .ok false L1):R Bool):=rfl
theorem Hl (a b:ST) (φ:Fr) (L:aa):IF a b φ L=(((a φ L).bind fun x L1=>if x=true then .ok true L1 else b φ L1):R Bool):=rfl
theorem EE (a:ST) (φ:Fr) (L:aa):dK a φ L=(((a φ L).map (!·)):R Bool):=rfl
theorem EF (a b:SE) (φ:Fr) (L:aa):zd a b φ L=(((tv a φ L).bind fun x L1=>if x=true then b φ L1 else .ok (.bl false) L1):R T):=rfl
theorem Hm (a b:SE) (φ:Fr) (L:aa):IG a b φ L=(((tv a φ L).bind fun x L1=>if x=true then .ok (.bl true) L1 else b φ L1):R T):=rfl
theorem EG (a:SE) (φ:Fr) (L:aa):oJ a φ L=(((tv a φ L).map fun b=>.bl (!b)):R T):=rfl
theorem Hn (φ:Fr) (L:aa):yes  φ L=((.ok true L):R Bool):=rfl
theorem Ho (k:ST) (a b:SE) (φ:Fr) (L:aa):FO k a b φ L=(((k φ L).bind fun x L1=>if x=true then a φ L1 else b φ L1):R T):=rfl
theorem Hq (ms:List SE) (φ:Fr) (L:aa):tup ms φ L=(((gz ms φ L).bind fun ts L1=>.ok (.tup ts) L1):R T):=rfl
theorem Hr (fz:Bool) (ms:List SE) (φ:Fr) (L:aa):lst fz ms φ L=(((gz ms φ L).bind fun ts L1=>fk fz ts L1):R T):=rfl
theorem EH (fz:Bool) (φ:Fr) (L:aa):ik fz φ L=((mk fz (.ah []) L):R T):=rfl
theorem K8 (fz:Bool) (a:SE) (lo hi:Option SE) (φ:Fr) (L:aa):sl fz a lo hi φ L=(((a φ L).bind fun x L1=>(Cr lo φ L1).bind fun i L2=>(Cr hi φ L2).bind fun j L3=>mr fz x i j L3):R T):=rfl
theorem pS (f:Fn) (ms:List SE) (φ:Fr) (L:aa):af f ms φ L=(((gz ms φ L).bind f):R T):=rfl
theorem tH (a:SE) (φ:Fr) (L:aa):src a φ L=(((a φ L).bind fun x L1=>match items x L1 with
 | some xs=>.ok (xs,stays x L1) L1
 | none=>.bad):R (List T × (aa->Prop))):=rfl
theorem M6 (a b:SE) (φ:Fr) (L:aa):ud a b φ L=(((a φ L).bind fun x L1=>(b φ L1).bind fun y L2=>match x,y with
 | .int i,.int j=>a8 (qG i/\qG j) (.ok (upTo i (j - i).toNat,fun _=>True) L2)
 | _,_=>.bad):R (List T × (aa->Prop))):=rfl
theorem B0 (a:SE) (φ:Fr) (L:aa):zf a φ L=(((a φ L).bind fun x L1=>match vw L1 x with
 | .lst xs=>.ok (num 0 xs,stays x L1) L1
 | _=>.bad):R (List T × (aa->Prop))):=rfl
theorem EI (a b:SE) (φ:Fr) (L:aa):Ji a b φ L=(((src a φ L).bind fun p L1=>(src b φ L1).bind fun q L2=>.ok (zp p.1 q.1,fun L'=>p.2 L'/\q.2 L') L2):R (List T × (aa->Prop))):=rfl
theorem EJ (a:SE) (φ:Fr) (L:aa):zi a φ L=(((a φ L).bind fun x L1=>match vw L1 x with
 | .ah []=>.ok ([],stays x L1) L1
 | _=>.bad):R (List T × (aa->Prop))):=rfl
theorem EK (φ:Fr) (L:aa):pass  φ L=((.nx φ L):O):=rfl
theorem Hs (φ:Fr) (L:aa):brk  φ L=((.bk φ L):O):=rfl
theorem Ht (φ:Fr) (L:aa):cnt  φ L=((.ct φ L):O):=rfl
theorem Hu (φ:Fr) (L:aa):fh  φ L=((.bad):O):=rfl
theorem xU (tg:Tg) (m:SE) (φ:Fr) (L:aa):asg tg m φ L=((O.of (m φ L) fun t L1=>match tg.set t φ with
 | some φ1=>.nx φ1 L1
 | none=>.bad):O):=rfl
theorem B1 (m:SE) (φ:Fr) (L:aa):df m φ L=((O.of (m φ L) fun _ L1=>.nx φ L1):O):=rfl
theorem B2 (m:SE) (φ:Fr) (L:aa):ret m φ L=((O.of (m φ L) fun t L1=>.rt t L1):O):=rfl
theorem Hv (k:ST) (a b:SS) (φ:Fr) (L:aa):iff k a b φ L=((O.of (k φ L) fun x L1=>if x=true then a φ L1 else b φ L1):O):=rfl
theorem B3 (op:Operator) (i:Nat) (m:SE) (φ:Fr) (L:aa):aug op i m φ L=((O.of (b2 (v i) m (ag op) φ L) fun t L1=>.nx (φ.set i (some t)) L1):O):=rfl
theorem xV (o:SE) (f:Str) (m:SE) (φ:Fr) (L:aa):dM o f m φ L=((O.of (m φ L) fun t L1=>O.of (o φ L1) fun x L2=>match oK f x t L2 with
 | some L3=>.nx φ L3
 | none=>.bad):O):=rfl
theorem EL (o i m:SE) (φ:Fr) (L:aa):oL o i m φ L=((O.of (m φ L) fun t L1=>O.of (o φ L1) fun x L2=>O.of (i φ L2) fun y L3=>match lN x y t L3 with
 | some L4=>.nx φ L4
 | none=>.bad):O):=rfl
theorem EM (op:Operator) (o i m:SE) (φ:Fr) (L:aa):vB op o i m φ L=((O.of (o φ L) fun x L1=>O.of (i φ L1) fun y L2=>O.of (Jj x y L2) fun z L3=>O.of (m φ L3) fun t L4=>O.of (ag op z t L4) fun r L5=>match lN x y r L5 with
 | some L6=>.nx φ L6
 | none=>.bad):O):=rfl
theorem xW (s:SI) (tg:Tg) (b:SS) (φ:Fr) (L:aa):aT s tg b φ L=((O.of (s φ L) fun u L1=>forL u.2 tg b u.1 φ L1):O):=rfl
theorem mR (np nn:Nat) (b:SS) (xs:List T) (L:aa):run np nn b xs L=(if xs.length=np then match b (xs.map some++Q7 (nn - np) none) L with
  | .rt t L'=>fin L t L'
  | .nx _ L'=>fin L .bj L'
  | _=>.bad
 else .bad):=rfl
theorem rQ (φ:Fr) (L:aa):ab [] φ L=.nx φ L:=rfl
theorem bD (s:SS) (r:List SS) (φ:Fr) (L:aa):ab (s::r) φ L=(s φ L).next (ab r):=rfl
theorem AZ (a:SE) (φ:Fr) (L:aa):jz [a] φ L=a φ L:=rfl
theorem A0 (a b:SE) (r:List SE) (φ:Fr) (L:aa):jz (a::b::r) φ L=zd a (jz (b::r)) φ L:=rfl
theorem EN (a:SE) (φ:Fr) (L:aa):vh [a] φ L=a φ L:=rfl
theorem EO (a b:SE) (r:List SE) (φ:Fr) (L:aa):vh (a::b::r) φ L=IG a (vh (b::r)) φ L:=rfl
theorem A3 (a:ST) (φ:Fr) (L:aa):fW [a] φ L=a φ L:=rfl
theorem A4 (a b:ST) (r:List ST) (φ:Fr) (L:aa):fW (a::b::r) φ L=zc a (fW (b::r)) φ L:=rfl
theorem ER (a:ST) (φ:Fr) (L:aa):vm [a] φ L=a φ L:=rfl
theorem ES (a b:ST) (r:List ST) (φ:Fr) (L:aa):vm (a::b::r) φ L=IF a (vm (b::r)) φ L:=rfl
theorem lj (φ:Fr) (L:aa):gz [] φ L=.ok [] L:=rfl
theorem jd (m:SE) (ms:List SE) (φ:Fr) (L:aa):gz (m::ms) φ L=((m φ L).bind fun t L1=>(gz ms φ L1).bind fun ts L2=>.ok (t::ts) L2):=rfl
theorem ET (φ:Fr) (L:aa):Cr none φ L=.ok none L:=rfl
theorem EU (m:SE) (φ:Fr) (L:aa):Cr (some m) φ L=((m φ L).bind fun t L1=>match t with
  | .int i=>.ok (some i) L1
  | _=>.bad):=rfl
theorem xX (f:Ty->Option (T->Fn)) (a:SE) (ms:List SE) (φ:Fr) (L:aa):ar f a ms φ L=((a φ L).bind fun x L1=>match (Bv L1 x).bind f with
 | some F=>(gz ms φ L1).bind fun ts L2=>F x ts L2
 | none=>.bad):=rfl
theorem mapM_map {α β:Type} {f:T->Option α} {g:β->T} {h:β->α} (hf:∀b,f (g b)=some (h b)):∀l:List β,(l.map g).mapM f=some (l.map h)
 | []=>rfl
 | b::l=>by rw [Q4,Tw,hf,mapM_map hf l];rfl
theorem iO {L Ln:aa} {t:T} (h:lt L.length t=true):fin L t (Ln++L)=.ok t L:=by
 have e:(Ln++L).drop ((Ln++L).length - L.length)=L:=by
  rw [QT,VP,Vh]
 unfold fin;rw [e,if_pos (show old L L from fun n c e=>.inl e)];unfold bZ;rw [if_pos h];rfl
theorem ll {s:Cs} {i:Int} {L:aa} (h0:0<=i) (h1:i<s.length):ix (.str s) (.int i) L=.ok (.str [s.getD i.toNat 0]) L:=by
 have hi:i.toNat<s.length:=by omega
 simp [ix,vw,place,h0,h1,lift,Gd9,hi]
theorem bE {x:T} {L:aa}:stays x L L:=fun n e=>rfl
noncomputable def Pp:T->Bool
 | .ref _=>true
 | _=>false
theorem sv {x:T} {L L':aa} (h:Pp x=false:=by rfl):stays x L L':=fun n e=>by subst e;cases h
end M
namespace Hw
open PySem
abbrev xY:Str:="abcdefghijklmnopqrstuvwxyz"
abbrev xZ:Str:="ABCDEFGHIJKLMNOPQRSTUVWXYZ"
abbrev K9:Str:="0123456789"
noncomputable def fb (c:Nat):Bool:=decide (c∈xY.cps.toList) || (decide (c∈xZ.cps.toList) || decide (c∈K9.cps.toList))
noncomputable def cZ (l:List Nat):Nat:=(l.takeWhile fb).length
noncomputable def aw (p:List Nat):Bool:=decide (1<=p.length) && (decide (p.length<=12) && p.all fb)
end Hw
namespace Bk
open PySem Hw
abbrev Cs:=List Nat
theorem aQ {s:Cs} (h:aw s=true):1<=s.length/\s.length<=12:=by
 unfold aw at h;simp only [QS,decide_eq_true_eq] at h;exact⟨h.1,h.2.1⟩
theorem B4 {s:Cs} (h:aw s=true):∀c∈s,fb c=true:=by
 unfold aw at h;simp only [QS,QO] at h;exact h.2.2
structure Fc where
 k:Cs
 as:List Cs
structure Kd where
 n:Cs
 c:Nat
 l:Bool
structure Lk where
 same:Bool
 l:Cs
 r:Cs
structure Rl where
 title:Cs
 take:List Fc
 keep:List Fc
 aC:List Lk
 put:List Fc
 tell:List (Cs × Cs)
noncomputable def great (x:Cs):Bool:=decide (x.headD 0∈xZ.cps.toList)
noncomputable def av (p:Cs):Bool:=aw p && decide (p.headD 0∈xY.cps.toList)
theorem aV {p:Cs} (h:av p=true):aw p=true:=by
 unfold av at h;rw [QS] at h;exact h.1
noncomputable def dW (x:Cs) (acc:List Cs):List Cs:=if great x=true then (if x∈acc then acc else acc++[x]) else acc
noncomputable def f7 (l:List Cs) (acc:List Cs):List Cs:=l.foldl (fun acc x=>dW x acc) acc
noncomputable def opens (fs:List Fc):List Cs:=f7 (fs.flatMap (·.as)) []
theorem lq:∀(l:List Cs) {acc:List Cs} (x:Cs),x∈f7 l acc↔x∈acc\/(x∈l/\great x=true)
 | [],acc,x=>by simp [f7]
 | n::ns,acc,x=>by
  show x∈f7 ns (dW n acc)↔_;rw [lq ns];have e:x∈dW n acc↔x∈acc\/(x=n/\great x=true):=by
   unfold dW;by_cases g:great n=true
   ·by_cases hm:n∈acc <;> simp only [g,hm,if_true,if_false,RB,Rr]
    ·exact⟨.inl,fun z=>z.elim id fun z=>z.1 ▸ hm⟩
    ·exact or_congr_right ⟨fun z=>⟨z,z ▸ g⟩,And.left⟩
   ·rw [if_neg g]
    exact⟨.inl,fun z=>z.elim id fun z=>absurd (z.1 ▸ z.2) g⟩
  rw [e,Q5,or_assoc,<- or_and_right]
theorem lr:∀(l acc:List Cs),acc.Nodup->(f7 l acc).Nodup
 | [],_,h=>h
 | x::r,acc,h=>lr r _ (by
  show(dW x acc).Nodup;unfold dW;split
  ·split
   ·exact h
   ·rename_i hx
    exact Um.mpr ⟨h,by simp,fun a ha b hb e=>hx (by rw [<- Rr.mp hb,<- e];exact ha)⟩
  ·exact h)
theorem pU (fs:List Fc):(opens fs).Nodup:=lr _ _ UA
theorem pV (x:Cs) (acc:List Cs):(dW x acc).length<=acc.length+1:=by unfold dW;split <;> (try split) <;> simp
theorem je (l acc:List Cs):(f7 l acc).length<=acc.length+l.length:=by
 induction l generalizing acc with
 | nil=>simp [f7]
 | cons x l ih =>
  have h1:=ih (dW x acc);have h2:=pV x acc
  show(f7 l (dW x acc)).length<=_;rw [QX];omega
theorem f9 {α β:Type} {g:α->List β} {B:Nat}:∀{l:List α},(∀x∈l,(g x).length<=B)->(l.flatMap g).length<=l.length * B
 | [],_=>by simp
 | a::r,h=>by
  have h1:=f9 (l:=r) fun x hx=>h x (QV _ hx)
  have h2:=h a QR;rw [Wg,QT,QX,XC];omega
theorem pW {fs:List Fc} {a:Cs} (h:a∈opens fs):(∃f∈fs,a∈f.as)/\great a=true:=by
 rcases(lq _ a).mp h with h|⟨h,g⟩
 ·cases h
 ·exact⟨Wx.mp h,g⟩
theorem FJ {fs:List Fc} {a:Cs} {f:Fc} (hf:f∈fs) (ha:a∈f.as) (g:great a=true):a∈opens fs :=
 (lq _ a).mpr (.inr ⟨Wx.mpr ⟨f,hf,ha⟩,g⟩)
inductive W (m:Cs):Cs->List Cs->Prop
 | nil:W m [] []
 | name {n:Cs} (h:aw n=true):W m n [n]
 | sp {a b:Cs} {p q:List Cs} (x:W m a p) (y:W m b q):W m (a++32::b) (p++q)
 | mk {a b:Cs} {p q:List Cs} {c:Nat} (hc:c∈m) (x:W m a p) (y:W m b q):W m (a++c::b) (p++[c]::q)
theorem W.up {m m':Cs} (h:∀c∈m,c∈m') {t:Cs} {p:List Cs} (w:W m t p):W m' t p:=by
 induction w with
 | nil=>exact .nil
 | name h=>exact .name h
 | sp _ _ a b=>exact .sp a b
 | mk hc _ _ a b=>exact .mk (h _ hc) a b
theorem pX:fb 32=false:=by decide +kernel
theorem W.no {m:Cs} {c:Nat} (ha:fb c=false) (hm:c∉m) {t:Cs} {p:List Cs} (w:W m t p):[c]∉p/\(c≠32->c∉t):=by
 induction w with
 | nil=>simp
 | @name n h =>
  have z:c∉n:=fun z=>by rw [B4 h c z] at ha;cases ha
  exact⟨fun e=>z (by rw [<- Rr.mp e];exact Rr.mpr rfl),fun _=>z⟩
 | sp _ _ a b=>exact⟨fun z=>(RB.mp z).elim a.1 b.1,fun h z=>(RB.mp z).elim (a.2 h) fun z=>(Q5.mp z).elim h (b.2 h)⟩
 | mk hc _ _ a b =>
  have n:∀{d},d∈m->c≠d:=fun h e=>hm (e ▸ h)
  exact⟨fun z=>(RB.mp z).elim a.1 fun z=>(Q5.mp z).elim (fun e=>n hc (TU e).1) b.1,fun h z=>(RB.mp z).elim (a.2 h) fun z=>(Q5.mp z).elim (n hc) (b.2 h)⟩
inductive Tk (m:Cs):Cs->List Cs->Prop
 | nil:Tk m [] []
 | sp {r:Cs} {q:List Cs} (t:Tk m r q):Tk m (32::r) q
 | mk {c:Nat} {r:Cs} {q:List Cs} (hc:c∈m) (t:Tk m r q):Tk m (c::r) ([c]::q)
 | name {n r:Cs} {q:List Cs} (h:aw n=true) (hs:∀c∈r.head?,fb c=false) (t:Tk m r q):Tk m (n++r) (n::q)
theorem W.tk {m:Cs} (hm:∀c∈m,fb c=false) {t:Cs} {p:List Cs} (w:W m t p):∀{r:Cs} {q:List Cs},(∀c∈r.head?,fb c=false)->Tk m r q->Tk m (t++r) (p++q):=by
 induction w with
 | nil=>exact fun _ h=>h
 | name h=>exact fun s t=>.name h s t
 | sp _ _ a b =>
  intro r q s t;rw [Rn,Rn];exact a (fun c h=>by cases h;exact pX) (.sp (b s t))
 | mk hc _ _ a b =>
  intro r q s t;rw [Rn,Rn];exact a (fun c h=>by cases h;exact hm _ hc) (.mk hc (b s t))
theorem Tk.len {m t:Cs} {p:List Cs} (w:Tk m t p):p.length<=t.length:=by
 induction w with
 | nil=>exact Q3 _
 | sp _ ih=>exact Tf ih
 | mk _ _ ih=>exact Wt ih
 | name h _ _ ih =>
  have:=(aQ h).1;rw [QT,QX];omega
noncomputable def glue (m:Cs):List (List Cs)->List Cs
 | []=>[]
 | [q]=>q
 | q::r=>q++m::glue m r
theorem W.join {α:Type} {m:Cs} {c:Nat} (hc:c∈m) {tx:α->Cs} {tp:α->List Cs}:∀l:List α,(∀x∈l,W m (tx x) (tp x))->W m (M.jn [c,32] (l.map tx)) (glue [c] (l.map tp))
 | [],_=>.nil
 | [a],h=>h a QR
 | a::b::r,h=>by
  have z:=W.mk hc (h a QR) (.sp .nil (W.join hc (b::r) fun x hx=>h x (QV _ hx)));show W m (tx a++[c,32]++M.jn [c,32] ((b::r).map tx)) _
  rw [Rn];exact z
theorem jf {sep:Cs} {B:Nat}:∀{ls:List Cs},(∀l∈ls,l.length<=B)->(M.jn sep ls).length<=ls.length * (B+sep.length)
 | [],_=>Rf _
 | [a],h=>by
  have:=h a QR;show a.length<=1 * _
  omega
 | a::b::r,h=>by
  have z:=jf (sep:=sep) (ls:=b::r) fun l hl=>h l (QV _ hl)
  have:=h a QR;show(a++sep++M.jn sep (b::r)).length<=((b::r).length+1) * _
  rw [QT,QT,XC];omega
abbrev bS:Cs:=[112,97,115,115,105,110,103]
abbrev bT:Cs:=[108,97,115,116,105,110,103]
abbrev eL:Cs:=[114,117,108,101]
abbrev EV:Cs:=[115,97,109,101]
abbrev x5:Cs:=[117,110,108,105,107,101]
noncomputable def wordAt:Nat->Cs
 | 0=>[116,97,107,101]
 | 1=>[107,101,101,112]
 | 2=>[108,111,111,107]
 | 3=>[112,117,116]
 | _=>[116,101,108,108]
theorem ic {i j:Nat} (hi:i<5) (hj:j<5) (h:wordAt i=wordAt j):i=j:=(by decide +kernel:∀i<5,∀j<5,wordAt i=wordAt j->i=j) i hi j hj h
theorem x6 {n:Nat} (h:n<5):aw (wordAt n)=true/\(wordAt n).length<=4:=(by decide +kernel:∀n<5,aw (wordAt n)=true/\(wordAt n).length<=4) n h
noncomputable def between:List Cs->List Cs
 | []=>[]
 | [a]=>[a,[41]]
 | a::r=>a::[44]::between r
noncomputable def x7 (g:Fc):Cs:=if g.as=[] then g.k else ((g.k++[40])++M.jn [44] g.as)++[41]
noncomputable def cD (g:Fc):List Cs:=if g.as=[] then [g.k] else g.k::[40]::between g.as
noncomputable def gR (b:Bool):Cs:=if b=true then EV else x5
theorem B5 (b:Bool):aw (gR b)=true/\(gR b).length<=6:=by cases b <;> decide +kernel
noncomputable def tJ (k:Lk):Cs:=k.l++32::(gR k.same++32::k.r)
noncomputable def gS (k:Lk):List Cs:=[k.l,gR k.same,k.r]
noncomputable def tK (p:Cs × Cs):Cs:=p.1++32::61::32::p.2
noncomputable def gT (p:Cs × Cs):List Cs:=[p.1,[61],p.2]
noncomputable def aq (k:Kd):Cs:=(if k.l=true then bT else bS)++(32::(k.n++(32::[48+k.c])))
noncomputable def pY (k:Kd):List Cs:=[if k.l=true then bT else bS,k.n,[48+k.c]]
structure Im where
 tx:Cs
 tp:List Cs
 t:M.T
end Bk
namespace M
open PySem
open Bk (Fc Kd Lk Rl)
noncomputable def fT (f:Fc):T:=.tup [.str f.k,.tup (f.as.map .str)]
noncomputable def pT (p:Cs × Cs):T:=.tup [.str p.1,.str p.2]
noncomputable def lT (k:Lk):T:=.obj (if k.same=true then "Same" else "Unlike") [("left",.str k.l),("right",.str k.r)]
end M
namespace Bk
open PySem Hw
noncomputable def fI (f:Fc):Im:=⟨x7 f,cD f,M.fT f⟩
noncomputable def lI (k:Lk):Im:=⟨tJ k,gS k,M.lT k⟩
noncomputable def pI (p:Cs × Cs):Im:=⟨tK p,gT p,M.pT p⟩
noncomputable def rows (r:Rl):List (Nat × List Im):=[(0,r.take.map fI),(1,r.keep.map fI),(2,r.aC.map lI),(3,r.put.map fI),(4,r.tell.map pI)]
noncomputable def ne (x:Nat × List Im):Bool:=!x.2.isEmpty
noncomputable def fP (r:Rl):List (Nat × List Im):=(rows r).filter ne
noncomputable def dP (x:Nat × List Im):Cs:=wordAt x.1++32::M.jn [44,32] (x.2.map (·.tx))
noncomputable def gU (x:Nat × List Im):List Cs:=wordAt x.1::glue [44] (x.2.map (·.tp))
noncomputable def fQ (w:Cs) (m:List Cs):List Cs:=if m=[] then [] else [w++32::M.jn [44,32] m]
theorem pZ:∀l:List (Nat × List Im),(l.flatMap fun x=>fQ (wordAt x.1) (x.2.map (·.tx)))=(l.filter ne).map dP
 | []=>rfl
 | x::r=>by
  rw [Wg,pZ r,List.filter_cons];obtain⟨n,l⟩:=x;cases l <;> rfl
noncomputable def bO (r:Rl):Cs:=eL++32::(r.title++58::32::M.jn [59,32] ((fP r).map dP))
noncomputable def dQ (r:Rl):List Cs:=eL::r.title::[58]::glue [59] ((fP r).map gU)
structure FG (g:Fc):Prop where
 k:av g.k=true
 as:∀a∈g.as,aw a=true
 n:g.as.length<=4
noncomputable def La (m:Nat) (r:Rl):Prop:=r.take.length<=m/\r.keep.length<=m/\r.aC.length<=m/\r.put.length<=m/\r.tell.length<=m
noncomputable def bV (ks:List Kd):List Cs:=(ks.filter (·.l)).map (·.n)
noncomputable def aM (ks:List Kd) (f:Fc):Prop:=∃k∈ks,k.n=f.k/\f.as.length=k.c
noncomputable def bJ (r:Rl):List Cs:=(r.aC.flatMap fun k=>[k.l,k.r])++((r.put.flatMap (·.as))++(r.tell.flatMap fun p=>[p.1,p.2]))
structure oG (ks:List Kd) (r:Rl):Prop where
 t:av r.title=true
 f:∀g∈r.take++r.keep++r.put,FG g/\aM ks g
 l:∀k∈r.aC,aw k.l=true/\aw k.r=true
 p:∀p∈r.tell,aw p.1=true/\aw p.2=true
 hd:r.take=[]->r.keep≠[]
 qz:La 3 r
 takes:∀f∈r.take,f.k∉bV ks
 calls:r.take=[]->∀f∈r.put,f.k∈bV ks
 Lb:∀a∈bJ r,aw a=true/\(great a=true->a∈opens (r.take++r.keep))
abbrev I8:Cs:=[40,41,44,61]
abbrev EW:Cs:=[40,41,44,58,59,61]
theorem W.M7:∀{as:List Cs},as≠[]->(∀a∈as,aw a=true)->W I8 (M.jn [44] as++[41]) (between as)
 | [],h,_=>absurd rfl h
 | [a],_,h=>.mk (c:=41) (by decide) (.name (h a QR)) .nil
 | a::b::r,_,h=>by
  have z:=W.mk (c:=44) (by decide) (.name (h a QR)) (W.M7 (as:=b::r) (Ts _ _) fun x hx=>h x (QV _ hx));show W I8 (a++[44]++M.jn [44] (b::r)++[41]) _
  rw [Rn,Rn];exact z
noncomputable def nZ (i:Im):Prop:=i.tx.length<=70/\W I8 i.tx i.tp
theorem FG.im {g:Fc} (h:FG g):nZ (fI g):=by
 have hk:=aV h.k;have h1:=(aQ hk).2
 have h2:=jf (sep:=[44]) fun a ha=>(aQ (h.as a ha)).2
 have h3:=h.n;unfold nZ fI x7 cD;by_cases e:g.as=[]
 ·rw [if_pos e,if_pos e]
  exact⟨Ra h1 (by decide),.name hk⟩
 ·rw [if_neg e,if_neg e]
  refine⟨?_,?_⟩
  ·simp only [QT,QX,RO] at h2 ⊢
   omega
  ·dsimp only
   rw [Rn,Rn];exact .mk (c:=40) (by decide) (.name hk) (W.M7 e h.as)
theorem tL {k:Lk} (h:aw k.l=true/\aw k.r=true):nZ (lI k)/\[44]∉gS k:=by
 have w:∀m,W m (tJ k) (gS k):=fun m=>.sp (.name h.1) (.sp (.name (B5 _).1) (.name h.2))
 have h1:=(aQ h.1).2;have h2:=(aQ h.2).2
 have h3:=(B5 k.same).2;refine⟨⟨?_,w _⟩,(W.no (m:=[]) (by decide +kernel) (by decide) (w _)).1⟩;unfold lI tJ;simp only [QT,QX];omega
theorem tM {k:Cs × Cs} (h:aw k.1=true/\aw k.2=true):nZ (pI k)/\[44]∉gT k:=by
 have w:∀{m},61∈m->W m (tK k) (gT k):=fun z=>.sp (.name h.1) (.mk z .nil (.sp .nil (.name h.2)))
 have h1:=(aQ h.1).2;have h2:=(aQ h.2).2
 refine⟨⟨?_,w (by decide)⟩,(W.no (m:=[61]) (by decide +kernel) (by decide) (w (by decide))).1⟩;unfold pI tK;simp only [QT,QX];omega
theorem A5 {α:Type} {P:α->Prop} {a b c d e:α} (ha:P a) (hb:P b) (hc:P c) (hd:P d) (he:P e):∀x∈[a,b,c,d,e],P x:=by
 simp only [Q5,UI,or_false];rintro x (rfl|rfl|rfl|rfl|rfl) <;> assumption
section
variable {ks:List Kd} {r:Rl} (h:oG ks r)
include h
theorem oG.row:∀x∈rows r,x.1<5/\x.2.length<=3/\∀i∈x.2,nZ i:=by
 obtain⟨f1,f2,f3,f4,f5⟩:=h.qz;have F:∀n<5,∀l:List Fc,l.length<=3->(∀g∈l,g∈r.take++r.keep++r.put)->n<5/\(l.map fI).length<=3/\∀i∈l.map fI,nZ i:=fun n hn l hl hs=>⟨hn,by rwa [Lm9],fun i hi=>by
  obtain⟨g,hg,rfl⟩:=Rj.mp hi;exact(h.f g (hs g hg)).1.im⟩
 refine A5 (F 0 (by decide) _ f1 fun g hg=>Q8 _ (Q8 _ hg)) (F 1 (by decide) _ f2 fun g hg=>Q8 _ (Rv _ hg)) ⟨show 2<5 by decide,by rwa [Lm9],fun i hi=>?_⟩ (F 3 (by decide) _ f4 fun g hg=>Rv _ hg) ⟨show 4<5 by decide,by rwa [Lm9],fun i hi=>?_⟩
 ·obtain⟨g,hg,rfl⟩:=Rj.mp hi
  exact(tL (h.l g hg)).1
 ·obtain⟨g,hg,rfl⟩:=Rj.mp hi
  exact(tM (h.p g hg)).1
theorem oG.part {x:Nat × List Im} (hx:x∈rows r):W I8 (dP x) (gU x)/\(dP x).length<=230:=by
 obtain⟨h5,h2,hi⟩:=h.row x hx;refine⟨.sp (.name (x6 h5).1) (W.join (by decide) _ fun i h=>(hi i h).2),?_⟩;have z:=jf (sep:=[44,32]) (ls:=x.2.map (·.tx)) (B:=70) fun l hl=>by
  obtain⟨i,h,rfl⟩:=Rj.mp hl;exact(hi i h).1
 have:=(x6 h5).2;unfold dP;simp only [QT,QX,Lm9,RO] at z ⊢;omega
theorem oG.parts:((fP r).map dP).length<=5/\∀l∈(fP r).map dP,l.length<=230:=by
 refine⟨by rw [Lm9];exact W4 _ _,fun l hl=>?_⟩;obtain⟨x,hx,rfl⟩:=Rj.mp hl;exact(h.part (Ti.mp hx).1).2
theorem oG.line:W EW (bO r) (dQ r)/\(bO r).length<=1300:=by
 refine⟨.sp (.name (n:=eL) (by decide +kernel)) (.mk (by decide) (.name (aV h.t)) (.sp .nil (W.join (by decide) _ fun x hx=>(h.part (Ti.mp hx).1).1.up (by decide)))),?_⟩;have z:=jf (sep:=[59,32]) h.parts.2
 have:=h.parts.1;have:=(aQ (aV h.t)).2
 unfold bO;simp only [QT,QX,RO] at z ⊢;omega
end
structure KG (ks:List Kd):Prop where
 len:ks.length<=4
 nd:(ks.map (·.n)).Nodup
 ok:∀k∈ks,av k.n=true/\k.c<=4
 yes:∃k∈ks,k.l=true
 no:∃k∈ks,k.l=false
theorem jg {k:Kd} (h:av k.n=true/\k.c<=4):W EW (aq k) (pY k)/\(aq k).length<=800:=by
 have hw:aw (if k.l=true then bT else bS)=true/\(if k.l=true then bT else bS).length=7:=by cases k.l <;> decide +kernel
 have:=(aQ (aV h.1)).2;refine⟨.sp (.name hw.1) (.sp (.name (aV h.1)) (.name ((by decide +kernel:∀c≤4,aw [48+c]=true) k.c h.2))),?_⟩;unfold aq;simp only [QT,QX,RO,hw.2];omega
theorem iP (p:Cs):(M.toS p).cps.toList=p:=by simp [M.toS]
theorem Hx (x:Str):M.toS x.cps.toList=x:=by cases x;simp [M.toS]
noncomputable def jF:Cs->List Cs
 | []=>[[]]
 | c::r=>if c=10 then []::jF r else match jF r with
  | []=>[[c]]
  | q::qs=>(c::q)::qs
theorem p4:∀(a r:Cs),10∉a->jF (a++10::r)=a::jF r
 | [],r,_=>rfl
 | c::a,r,h=>by
  have hc:c≠10:=fun e=>h (by rw [e];exact QR)
  show(if c=10 then []::jF (a++10::r) else match jF (a++10::r) with|[]=>[[c]]|q::qs=>(c::q)::qs)=_;rw [if_neg hc,p4 a r fun z=>h (QV _ z)]
theorem p5:∀(a:Cs),10∉a->jF a=[a]
 | [],_=>rfl
 | c::a,h=>by
  have hc:c≠10:=fun e=>h (by rw [e];exact QR)
  show(if c=10 then []::jF a else match jF a with|[]=>[[c]]|q::qs=>(c::q)::qs)=_;rw [if_neg hc,p5 a fun z=>h (QV _ z)]
theorem jh:∀(ls:List Cs),ls≠[]->(∀l∈ls,10∉l)->jF (M.jn [10] ls)=ls
 | [],h,_=>absurd rfl h
 | [a],_,h=>p5 a (h a QR)
 | a::b::r,_,h=>by
  show jF (a++[10]++M.jn [10] (b::r))=_;rw [Rn,Uj,p4 a _ (h a QR),jh (b::r) (Ts _ _) fun l hl=>h l (QV _ hl)]
theorem p6:∀(ls:List Str),(Str.join ⟨#[10]⟩ ls).cps.toList=M.jn [10] (ls.map fun s=>s.cps.toList)
 | []=>rfl
 | [a]=>rfl
 | a::b::r=>by
  show((a++(⟨#[10]⟩:Str))++Str.join ⟨#[10]⟩ (b::r)).cps.toList=_;rw [Xj,Xj,p6 (b::r)];rfl
theorem x8 (x:Str):Uy x ⟨#[10]⟩≠[]:=by
 unfold Uy;split
 ·simp
 ·split
  ·simp
  ·intro h
   have e:=congrArg Th h;rw [PyProof.Rows.len_partsBetween] at e;simp at e
theorem p7 {ls:List Cs} (h0:ls≠[]) (h:∀l∈ls,10∉l):Uy (M.toS (M.jn [10] ls)) (M.toS [10])=ls.map M.toS:=by
 have e1:=StrLaws.join_split (M.toS (M.jn [10] ls)) ⟨#[10]⟩;have hf:=StrLaws.split_free (M.toS (M.jn [10] ls)) 10
 have hn:=x8 (M.toS (M.jn [10] ls));show Uy (M.toS (M.jn [10] ls)) ⟨#[10]⟩=_
 generalize Uy (M.toS (M.jn [10] ls)) ⟨#[10]⟩=ts at e1 hf hn;have e3:=congrArg jF (show M.jn [10] (ts.map fun s=>s.cps.toList)=M.jn [10] ls by rw [<- p6,e1,iP])
 rw [jh ls h0 h,jh _ (by simpa using hn) (by
  intro l hl;obtain⟨t,ht,rfl⟩:=Rj.mp hl;exact hf t ht)] at e3
 rw [<- e3,Sb,show(M.toS ∘ fun s:Str=>s.cps.toList)=id from funext Hx,Wr]
theorem yc {c:Nat} (hc:c≠32) (p:Cs):∃q:Cs,VT (M.toS (c::p)) (M.toS [32])=M.toS (c::q)/\q.length<=p.length:=by
 have e0:(M.toS [32]).cps.contains=fun c=>c == 32:=by
  funext c;simp [M.toS,Bool.beq_eq_decide_eq]
 unfold VT;rw [e0,PyProof.Rows.stripBy_eq];have Pq:stripLo (fun c=>c == 32) true (M.toS (c::p))=0:=by
  simp [stripLo,M.toS,hc]
 obtain⟨b1,b2,b3,b4⟩:=PyProof.Rows.hi_facts (fun c=>c == 32) (M.toS (c::p)) _ (Rf _);rw [Pq];generalize stripHi (fun c=>c == 32) true (M.toS (c::p)) 0=hi at b1 b2 b3 b4;have hl:(M.toS (c::p)).length=p.length+1:=by simp [M.toS,Str.length]
 rw [hl] at b2 b3;obtain⟨k,rfl⟩:∃k,hi=k+1:=by
  cases hi with
  | succ k=>exact⟨k,rfl⟩
  | zero =>
   have z:=b3 0 (Q3 _) (VN _);exact absurd z (by simp [M.toS,hc])
 refine⟨p.take k,?_,by rw [Sw];omega⟩;rw [<- Hx (Builtin.Str.strSub (M.toS (c::p)) 0 (k+1)),StrLaws.strSub_toList,iP];rfl
abbrev fF:Cs:=[97,98,99,100,101,102,103,104]
noncomputable def nameOf (a b k:Nat):Cs:=Q7 a 109++([fF.getD k 0]++Q7 b 109)
theorem EX {a b k:Nat} (hk:k<8) (hab:a+b<=4):av (nameOf a b k)=true:=(by decide +kernel:∀a<5,∀b<5,∀k<8,av (nameOf a b k)=true) a (by omega) b (by omega) k hk
theorem Hy {a b j k:Nat} (hj:j<8) (hk:k<8) (h:nameOf a b j=nameOf a b k):j=k:=by
 unfold nameOf at h;have h2:=List.append_inj_right h rfl
 have h3:fF.getD j 0=fF.getD k 0:=(TU h2).1;exact(by decide +kernel:∀j<8,∀k<8,fF.getD j 0=fF.getD k 0->j=k) j hj k hk h3
theorem mS:∀(l m:List Cs),l.Nodup->(∀x∈l,x∈m)->l.length<=m.length
 | [],_,_,_=>Rf _
 | x::r,m,nd,h=>by
  have hx:=h x (QR ..);have nr:=Sf.mp nd
  have z:=mS r (m.erase x) nr.2 fun y hy=>(List.mem_erase_of_ne (fun e=>nr.1 (by rw [<- e];exact hy))).mpr (h y (QV _ hy))
  rw [UO hx] at z;have:1<=m.length:=WM hx
  rw [QX];omega
deriving instance DecidableEq for Fc
noncomputable def short (bp ts:List Fc):Bool:=ts.any fun f=>decide (bp.count f<ts.count f)
theorem uV {α:Type} [DecidableEq α]:∀(l b:List α),(∀f,l.count f<=b.count f)->l.length<=b.length
 | [],_,_=>Rf _
 | x::l,b,h=>by
  have hx:x∈b:=by
   have z:=h x;rw [List.count_cons_self] at z;exact VQ.mp (by omega)
  have ih:=uV l (b.erase x) fun f=>by
   have z:=h f;rw [List.count_cons] at z;rw [List.count_erase];by_cases e:x=f
   ·subst e
    simp only [beq_self_eq_true,if_true] at z ⊢;omega
   ·have e1:(x == f)=false:=by simpa using e
    simp only [e1,QW,if_false] at z ⊢;omega
  have hp:=WM hx;rw [UO hx] at ih;rw [QX];omega
end Bk
namespace Un
section
variable {α:Type} [DecidableEq α] (great:α->Bool) (lt:α->α->Bool)
noncomputable def mn (a b:α):α:=if lt b a=true then b else a
noncomputable def yd (p q:α):α:=if great p=false then p else if great q=false then q else mn lt p q
variable {great lt}
theorem Hz (a b:α):mn lt a b=a\/mn lt a b=b:=by
 unfold mn;split
 ·exact .inr rfl
 ·exact .inl rfl
noncomputable def told (great:α->Bool) (lt:α->α->Bool) (ρ:α->α) (a b x:α):α:=if ρ x=ρ a\/ρ x=ρ b then yd great lt (ρ a) (ρ b) else ρ x
end
end Un
namespace Bk
open PySem Hw
abbrev iQ:=List (Cs × Cs)
noncomputable def HA (st:iQ) (n:Cs):Option Cs:=(st.find? fun p=>decide (p.1=n)).map (·.2)
noncomputable def oH (st:iQ) (n:Cs):Cs:=(HA st n).getD n
noncomputable def M8 (a b:Cs):Bool:=decide (a<b)
noncomputable def Lc (st:iQ) (n:Cs):iQ:=if great n=true then (if n∈st.map (·.1) then st else st++[(n,n)]) else st
noncomputable def HB (st:iQ) (ns:List Cs):iQ:=ns.foldl Lc st
noncomputable def ye (p q:Cs) (e:Cs × Cs):Cs × Cs:=(e.1,if e.2=p\/e.2=q then Un.yd great M8 p q else e.2)
noncomputable def yf (p q:Cs):Prop:=p≠q/\great p=false/\great q=false
noncomputable instance (p q:Cs):Decidable (yf p q):=by unfold yf;infer_instance
noncomputable def yg (st:iQ) (p q:Cs):iQ:=if p=q then st else st.map (ye p q)
theorem EY (p q:Cs) (st:iQ):(st.map (ye p q)).map (·.1)=st.map (·.1):=by
 rw [Sb];rfl
noncomputable def wr (st:iQ) (f:Fc):Fc:=⟨f.k,f.as.map (oH st)⟩
noncomputable def A6:iQ->List (Cs × Cs)->Option iQ
 | st,[]=>some st
 | st,(a,b)::r=>if yf (oH (HB st [a,b]) a) (oH (HB st [a,b]) b) then none else A6 (yg (HB st [a,b]) (oH (HB st [a,b]) a) (oH (HB st [a,b]) b)) r
noncomputable def lw (fP:List (Cs × Cs)) (st:iQ) (l:List Fc):List Fc:=if fP=[] then l else l.map (wr st)
noncomputable def B6 (ks:List Kd) (ns:List Cs) (f:Fc):Prop:=(∃k∈ks,f.k=k.n/\f.as.length=k.c)/\∀a∈f.as,a∈ns
noncomputable def M9 (k:Kd):Bool:=!k.l
structure Ld (ks:List Kd) (os ws:List Cs) (r:Rl):Prop where
 take:∀f∈r.take,B6 (ks.filter M9) (os++ws) f
 keep:∀f∈r.keep,B6 ks (os++ws) f
 put:∀f∈r.put,B6 (if r.take=[] then ks.filter (·.l) else ks) (opens (r.take++r.keep)++ws) f
 aC:∀k∈r.aC,k.l∈opens (r.take++r.keep)++ws/\k.r∈opens (r.take++r.keep)++ws
 tell:∀p∈r.tell,p.1∈opens (r.take++r.keep)++ws/\p.2∈opens (r.take++r.keep)++ws
 hd:1<=r.take.length+r.keep.length
 qz:La 2 r
noncomputable def bf (r:Rl) (t:Cs):Rl:={ r with title:=t }
section
variable {ks:List Kd} {os ws:List Cs} {r:Rl} {t:Cs}
theorem B6.sub {ks ks':List Kd} {ns ns':List Cs} {f:Fc} (h:B6 ks' ns f) (hs:∀k∈ks',k∈ks) (hn:∀n∈ns,n∈ns'):B6 ks ns' f:=by
 obtain⟨⟨k,hk,e⟩,ha⟩:=h;exact⟨⟨k,hs k hk,e⟩,fun a h=>hn a (ha a h)⟩
theorem yh {α β:Type} {f:α->β} {l:List α} (nd:(l.map f).Nodup) {j k:α} (hj:j∈l) (hk:k∈l) (e:f j=f k):j=k:=by
 induction l with
 | nil=>cases hk
 | cons a r ih =>
  rw [Q4,Sf] at nd;rcases Q5.mp hj with z|z <;> rcases Q5.mp hk with y|y
  ·rw [y,z]
  ·exact absurd (by rw [<- z,e];exact Ry y) nd.1
  ·exact absurd (by rw [<- y,<- e];exact Ry z) nd.1
  ·exact ih nd.2 z y
theorem Ld.Pt (hG:KG ks) (hN:∀n∈os++ws,aw n=true) (hW:∀n∈ws,great n=false) (ht:av t=true) (d:Ld ks os ws r):oG ks (bf r t):=by
 have hd:∀f∈r.take++r.keep,B6 ks (os++ws) f:=fun f hf=>(RB.mp hf).elim (fun h=>(d.take f h).sub (fun k hk=>(Ti.mp hk).1) fun _ h=>h) (d.keep f)
 have FK:∀n∈opens (r.take++r.keep)++ws,aw n=true:=fun n hn=>(RB.mp hn).elim (fun h=>by
  obtain⟨⟨f,hf,ha⟩,_⟩:=pW h;exact hN n ((hd f hf).2 n ha)) fun h=>hN n (Rv _ h)
 have fg:∀{ns f},(∀n∈ns,aw n=true)->B6 ks ns f->FG f/\aM ks f:=fun hn h=>by
  obtain⟨⟨k,hk,e1,e2⟩,ha⟩:=h;exact⟨⟨by rw [e1];exact(hG.ok k hk).1,fun a h=>hn a (ha a h),by rw [e2];exact(hG.ok k hk).2⟩,k,hk,e1.symm,e2⟩
 refine⟨ht,fun g hg=>(RB.mp hg).elim (fun h=>fg hN (hd g h)) fun h=>fg FK ((d.put g h).sub (fun k hk=>?_) fun _ h=>h),fun k hk=>⟨FK _ (d.aC k hk).1,FK _ (d.aC k hk).2⟩,fun k hk=>⟨FK _ (d.tell k hk).1,FK _ (d.tell k hk).2⟩,fun e e2=>?_,⟨Tf d.qz.1,Tf d.qz.2.1,Tf d.qz.2.2.1,Tf d.qz.2.2.2.1,Tf d.qz.2.2.2.2⟩,fun f hf h=>?_,fun e f hf=>?_,fun a ha=>?_⟩
 ·split at hk
  ·exact(Ti.mp hk).1
  ·exact hk
 ·have:=d.hd
  rw [show r.take=[] from e,show r.keep=[] from e2] at this;cases this
 ·obtain⟨⟨k,hk,e,_⟩,_⟩:=d.take f hf
  obtain⟨j,hj,e2⟩:=Rj.mp h;obtain⟨hk,hp⟩:=Ti.mp hk;obtain⟨hj,hl⟩:=Ti.mp hj;rw [yh hG.nd hj hk (e2.trans e)] at hl;unfold M9 at hp;rw [hl] at hp;cases hp
 ·obtain⟨⟨k,hk,e1,_⟩,_⟩:=d.put f hf
  rw [if_pos (show r.take=[] from e)] at hk;rw [e1];exact Ry hk
 ·have z:a∈opens (r.take++r.keep)++ws:=by
   unfold bJ at ha;simp only [RB,Wx,Q5,UI,or_false] at ha;rcases ha with⟨k,hk,e|e⟩|⟨f,hf,h⟩|⟨p,hp,e|e⟩
   ·rw [e];exact(d.aC k hk).1
   ·rw [e];exact(d.aC k hk).2
   ·exact(d.put f hf).2 a h
   ·rw [e];exact(d.tell p hp).1
   ·rw [e];exact(d.tell p hp).2
  exact⟨FK a z,fun g=>(RB.mp z).elim id fun h=>by rw [hW a h] at g;cases g⟩
end
theorem KG.I9 {ks ks':List Kd} (hG:KG ks) (p:ks'.Perm ks):KG ks':=by
 refine⟨by rw [p.length_eq];exact hG.len,(p.map _).nodup_iff.mpr hG.nd,fun k hk=>hG.ok k (p.mem_iff.mp hk),?_,?_⟩
 ·obtain⟨k,hk,e⟩:=hG.yes
  exact⟨k,p.mem_iff.mpr hk,e⟩
 ·obtain⟨k,hk,e⟩:=hG.no
  exact⟨k,p.mem_iff.mpr hk,e⟩
theorem HC {α:Type} (n:Nat) (l:List α):(l.drop n++l.take n).Perm l :=
 List.perm_append_comm.trans (by rw [Ug])
noncomputable def EZ (sm:Bool) (a b:Cs):Bool:=if sm=true then decide (a=b) else !great a && (!great b && !decide (a=b))
noncomputable def HD (st:iQ) (k:Lk):Bool:=EZ k.same (oH st k.l) (oH st k.r)
noncomputable def gI (st:iQ) (r:Rl):List Fc:=(r.take++r.keep).map (wr st)
noncomputable def B7 (ks:List Kd) (B8 y5 hs:List Fc) (h:Fc):Bool:=if h.k∈bV ks then decide (h∈y5) else decide (hs.countP (fun a=>decide (a=h))<=B8.countP (fun a=>decide (a=h)))
noncomputable def rR (ks:List Kd) (st:iQ) (r:Rl) (B8 y5:List Fc):Bool:=(gI st r).all (B7 ks B8 y5 (gI st r))
noncomputable def yi (st:iQ) (r:Rl) (y5:List Fc):Bool:=(r.put.any fun f=>!decide (wr st f∈y5)) || (r.tell.any fun p=>!decide (oH st p.1=oH st p.2))
noncomputable def Na (ks:List Kd) (st:iQ) (r:Rl) (B8 y5:List Fc) (E0:Bool):Bool:=!E0 && (r.aC.all (HD st) && (rR ks st r B8 y5 && (!decide (r.take=[]) || yi st r y5)))
noncomputable def E1 (r:Rl) (ns:List Cs):iQ:=(opens (r.take++r.keep)).zip ns
noncomputable def E2 (a:Cs):Prop:=aw a=true/\great a=decide (a.headD 0=78)
noncomputable def rT (i:Nat):Cs:=[114,48+i]
noncomputable def gc (rs:List Rl):List Rl:=rs.zipIdx.map fun x=>bf x.1 (rT x.2)
structure yj (ks:List Kd) (ns ws:List Cs) (rs:List Rl):Prop where
 kg:KG ks
 n4:ns.length=4
 w2:ws.length=2
 Nb:∀n∈ns++ws,E2 n
 ng:∀n∈ns,great n=true
 wg:∀n∈ws,great n=false
 nd:(ns++ws).Nodup
 r2:rs.length=2
 rd:∀r∈rs,Ld ks (ns.take 3) ws r
theorem FL {r:Rl} {ns:List Cs} (h:ns.length=(opens (r.take++r.keep)).length):(E1 r ns).map (·.1)=opens (r.take++r.keep):=by
 unfold E1;rw [List.map_fst_zip (by omega)]
theorem Ja {st:iQ} {n v:Cs} (h:HA st n=some v):v∈st.map (·.2):=by
 unfold HA at h;obtain⟨e,h1,h2⟩:=QY.mp h;rw [<- h2];exact Ry (V0 h1)
theorem Jb {r:Rl} {ns:List Cs} {v:Cs} (h:v∈(E1 r ns).map (·.2)):v∈ns:=by
 obtain⟨e,he,rfl⟩:=Rj.mp h;exact(UR (show(e.1,e.2)∈_ from he)).2
theorem A7 {rs:List Rl} {i:Nat} (h:i<rs.length):(gc rs)[i]?=some (bf rs[i] (rT i)):=by
 unfold gc;rw [Rd,List.getElem?_zipIdx,Ge9 h];simp
section
variable {ks:List Kd} {ns ws:List Cs} {rs:List Rl} (h:yj ks ns ws rs)
include h
theorem yj.nm:∀n∈ns.take 3++ws,aw n=true:=fun n hn=>(RB.mp hn).elim (fun z=>(h.Nb n (Q8 _ (W7 z))).1) fun z=>(h.Nb n (Rv _ z)).1
theorem yj.rl:∀r∈rs,∀i<2,oG ks (bf r (rT i)):=fun r hr i hi=>(h.rd r hr).Pt h.kg h.nm h.wg ((by decide +kernel:∀i<2,av (rT i)=true) i hi)
theorem yj.QH:(gc rs).length<=2/\(∀r∈gc rs,oG ks r)/\((gc rs).map (·.title)).Nodup:=by
 have z:=h.rl
 match rs,h.r2 with
 | [a,b],_=>exact⟨Q3 2,Vq.mpr ⟨z a (by simp) 0 (by decide),Vq.mpr ⟨z b (by simp) 1 (by decide),fun _ h=>nomatch h⟩⟩,show [rT 0,rT 1].Nodup by decide⟩
theorem yj.Lf {r:Rl} (hr:r∈rs):(opens (r.take++r.keep)).length<=3:=by
 have d:=h.rd r hr;have z:=mS _ (ns.take 3) (pU (r.take++r.keep)) fun x hx=>by
  obtain⟨⟨g,hg,Nc⟩,gr⟩:=pW hx;have vd:x∈ns.take 3++ws:=(RB.mp hg).elim (fun z=>(d.take g z).2 x Nc) fun z=>(d.keep g z).2 x Nc
  exact(RB.mp vd).elim id fun z=>by rw [h.wg x z] at gr;cases gr
 rw [Sw] at z;omega
end
theorem Jc {left bp ts:List Fc} (h:∀f,left.count f=bp.count f - ts.count f) {g:Fc} (hg:g∈left):g∈bp:=by
 have z:=h g;have z2:=VQ.mpr hg
 exact VQ.mp (by omega)
noncomputable def QI (st:iQ) (p:Cs × Cs):Cs × Cs:=(oH st p.1,oH st p.2)
noncomputable def HE (st:iQ):Prop:=∀e∈st,E2 e.1/\E2 e.2
theorem HE.oH {st:iQ} (h:HE st) {a:Cs} (ha:E2 a):E2 (oH st a):=by
 unfold Bk.oH;cases Nd:HA st a with
 | none=>exact ha
 | some v =>
  unfold HA at Nd;obtain⟨e,h1,h2⟩:=QY.mp Nd;rw [<- h2];exact(h e (V0 h1)).2
theorem HE.tell {st:iQ} (h:HE st) {p q:Cs} (hp:E2 p) (hq:E2 q):HE (yg st p q):=by
 unfold yg;split
 ·exact h
 ·intro e he
  obtain⟨e',he',rfl⟩:=Rj.mp he;refine⟨(h e' he').1,?_⟩;unfold ye;dsimp only;split
  ·unfold Un.yd
   split
   ·exact hp
   ·split
    ·exact hq
    ·rcases Un.Hz (lt:=M8) p q with e|e
     ·rw [e];exact hp
     ·rw [e];exact hq
  ·exact(h e' he').2
theorem Ca {ks:List Kd} {st:iQ} {r:Rl} {B8 y5:List Fc} (h:rR ks st r B8 y5=true) (ht:∀f∈r.take,f.k∉bV ks):short B8 (r.take.map (wr st))=false:=by
 unfold short;rw [List.any_eq_false];intro f hf;unfold rR at h;have vd:f∈gI st r:=by
  unfold gI;rw [Rg];exact Q8 _ hf
 have z:=QO.mp h f vd;unfold B7 at z;have hk:f.k∉bV ks:=by
  obtain⟨g,hg,rfl⟩:=Rj.mp hf;exact ht g hg
 rw [if_neg hk] at z;have z:=of_decide_eq_true z
 have e1:∀l:List Fc,l.countP (fun a=>decide (a=f))=l.count f:=fun l=>by
  unfold List.count;congr 1
 rw [e1,e1] at z;have e2:(r.take.map (wr st)).count f<=(gI st r).count f:=by
  unfold gI;rw [Rg,List.count_append];omega
 rw [decide_eq_true_eq];omega
theorem Nf {st:iQ} {f:Fc} (h:∀a∈f.as,oH st a=a):wr st f=f:=by
 obtain⟨k,as⟩:=f;unfold wr;have e:as.map (oH st)=as:=by
  have z:=VA (f:=oH st) (g:=id) (l:=as) h;rw [z,Wr]
 show(⟨k,as.map (oH st)⟩:Fc)=_;rw [e]
theorem Lg {st:iQ} {l:List Fc} (h:∀f∈l,wr st f=f):l.map (wr st)=l:=by
 have z:=VA (f:=wr st) (g:=id) (l:=l) h;rw [z,Wr]
end Bk
namespace M
open PySem
open Bk (Fc Kd Lk Rl)
noncomputable def kT (k:Kd):T:=.tup [.str k.n,.int k.c,.bl k.l]
noncomputable def Cb (k:Lk):T:=.tup [.str (Bk.gR k.same),.str k.l,.str k.r]
noncomputable def aB (r:Rl):T:=.obj "Rule" [("title",.str r.title),("taken",.lst (r.take.map fT)),("kept",.lst (r.keep.map fT)),("looks",.lst (r.aC.map lT)),("given",.lst (r.put.map fT)),("told",.lst (r.tell.map pT)),("names",.lst ((Bk.opens (r.take++r.keep)).map .str))]
noncomputable def cQ (ks:List Kd) (rs:List Rl):T:=.obj "Book" [("kinds",.lst (ks.map kT)),("rules",.lst (rs.map aB))]
noncomputable def xT (r:Rl):T:=.tup [.lst (r.take.map fT),.lst (r.keep.map fT),.lst (r.aC.map Cb),.lst (r.put.map fT),.lst (r.tell.map pT)]
noncomputable def Ng (st:Bk.iQ):T:=.ah (st.map fun p=>(.str p.1,.str p.2))
section
variable {L:aa} {f:Fc} {k:Kd} {p:Cs × Cs} {x y z u w:T} {r:List T}
theorem Pu:ix (fT f) (.int 0) L=.ok (.str f.k) L:=rfl
theorem Pw:ix (fT f) (.int 1) L=.ok (.tup (f.as.map .str)) L:=rfl
theorem Nh:ix (kT k) (.int 0) L=.ok (.str k.n) L:=rfl
theorem Px:ix (kT k) (.int 1) L=.ok (.int k.c) L:=rfl
theorem Ni:ix (kT k) (.int 2) L=.ok (.bl k.l) L:=rfl
theorem Py:ix (pT p) (.int 0) L=.ok (.str p.1) L:=rfl
theorem Pz:ix (pT p) (.int 1) L=.ok (.str p.2) L:=rfl
theorem PB {r:Rl}:ix (xT r) (.int 0) L=.ok (.lst (r.take.map fT)) L:=rfl
theorem PC {r:Rl}:ix (xT r) (.int 1) L=.ok (.lst (r.keep.map fT)) L:=rfl
theorem PD {r:Rl}:ix (xT r) (.int 2) L=.ok (.lst (r.aC.map Cb)) L:=rfl
theorem PF {r:Rl}:ix (xT r) (.int 3) L=.ok (.lst (r.put.map fT)) L:=rfl
theorem PH {r:Rl}:ix (xT r) (.int 4) L=.ok (.lst (r.tell.map pT)) L:=rfl
theorem PJ {k:Lk}:ix (Cb k) (.int 0) L=.ok (.str (Bk.gR k.same)) L:=rfl
theorem PK {k:Lk}:ix (Cb k) (.int 1) L=.ok (.str k.l) L:=rfl
theorem PL {k:Lk}:ix (Cb k) (.int 2) L=.ok (.str k.r) L:=rfl
theorem n6 {xs:List T} {i:Nat} {x:T} (h:xs[i]?=some x):ix (.tup xs) (.int i) L=.ok x L:=by
 obtain⟨hi,e⟩:=Q2.mp h;simp [ix,vw,place,hi,e,lift]
theorem Lh:ix (.tup (x::r)) (.int 0) L=.ok x L:=n6 (i:=0) rfl
theorem Li:ix (.tup (x::y::r)) (.int 1) L=.ok y L:=n6 (i:=1) rfl
theorem Lj:ix (.tup (x::y::z::r)) (.int 2) L=.ok z L:=n6 (i:=2) rfl
theorem Ll:ix (.tup (x::y::z::u::r)) (.int 3) L=.ok u L:=n6 (i:=3) rfl
theorem yk:ix (.lst (x::r)) (.int 0) L=.ok x L:=eK (i:=0) rfl
theorem E3:ix (.lst (x::y::r)) (.int 1) L=.ok y L:=eK (i:=1) rfl
theorem Lm:ix (.lst (x::y::z::r)) (.int 2) L=.ok z L:=eK (i:=2) rfl
theorem Lq:ix (.lst (x::y::z::u::r)) (.int 3) L=.ok u L:=eK (i:=3) rfl
theorem Lr:ix (.lst (x::y::z::u::w::r)) (.int 4) L=.ok w L:=eK (i:=4) rfl
theorem Ls {v:T}:ix (.lst (x::y::z::u::w::v::r)) (.int 5) L=.ok v L:=eK (i:=5) rfl
theorem PM {r:Rl}:fld "taken" (aB r) L=.ok (.lst (r.take.map fT)) L:=rfl
theorem PN {r:Rl}:fld "kept" (aB r) L=.ok (.lst (r.keep.map fT)) L:=rfl
theorem PQ {r:Rl}:fld "looks" (aB r) L=.ok (.lst (r.aC.map lT)) L:=rfl
theorem PR {r:Rl}:fld "given" (aB r) L=.ok (.lst (r.put.map fT)) L:=rfl
theorem PU {r:Rl}:fld "told" (aB r) L=.ok (.lst (r.tell.map pT)) L:=rfl
theorem PV {r:Rl}:fld "names" (aB r) L=.ok (.lst ((Bk.opens (r.take++r.keep)).map .str)) L:=rfl
theorem PW {r:Rl}:fld "title" (aB r) L=.ok (.str r.title) L:=rfl
theorem PX {k:Lk}:fld "left" (lT k) L=.ok (.str k.l) L:=by cases h:k.same <;> simp [lT,h,fld,vw,lift,Wi]
theorem PY {k:Lk}:fld "right" (lT k) L=.ok (.str k.r) L:=by
 have:(("right":Str) == "left")=false:=by decide
 cases h:k.same <;> simp [lT,h,fld,vw,lift,Wi,this]
theorem PZ {ks:List Kd} {rs:List Rl}:fld "kinds" (cQ ks rs) L=.ok (.lst (ks.map kT)) L:=rfl
theorem flb {ks:List Kd} {rs:List Rl}:fld "rules" (cQ ks rs) L=.ok (.lst (rs.map aB)) L:=rfl
theorem vf:vw L (fT f)=fT f:=rfl
theorem vk:vw L (kT k)=kT k:=rfl
theorem vp:vw L (pT p)=pT p:=rfl
theorem vx {r:Rl}:vw L (xT r)=xT r:=rfl
theorem vr {r:Rl}:vw L (aB r)=aB r:=rfl
theorem dy {c:T}:at_ (c::L) L.length=some c:=if_pos rfl
theorem n7 {c d:T}:at_ (d::c::L) L.length=some c:=by simp [at_]
theorem E4 {c d e:T}:at_ (e::d::c::L) L.length=some c:=by
 unfold at_;rw [if_neg (by simp only [QX];omega)];exact n7
theorem rS {c d:T}:at_ (d::c::L) (L.length+1)=some d:=by simp [at_]
theorem HF {c d e:T}:at_ (e::d::c::L) (L.length+1)=some d:=by
 unfold at_;rw [if_neg (by simp only [QX];omega)];exact rS
theorem Lu {c d e:T}:at_ (e::d::c::L) (L.length+2)=some e:=if_pos rfl
theorem rU {c d:T}:put (c::L) L.length d=d::L:=by simp [put]
theorem A8 {c d e:T}:put (d::c::L) L.length e=d::e::L:=by simp [put]
theorem HG {c d e:T}:put (d::c::L) (L.length+1) e=e::c::L:=by simp [put]
theorem fc {n:Nat}:vw L (.ref n)=(at_ L n).getD .bj:=rfl
theorem dX {α:Type} {a b:α}:(some a).getD b=a:=rfl
end
theorem gd {α:Type} {n:Nat} {g:α->T} (h:∀x,lt n (g x)=true):∀l:List α,fj n (l.map g)=true
 | []=>rfl
 | x::l=>by rw [Q4,fj,h x,gd h l];rfl
theorem lx {n:Nat} (l:List Cs):fj n (l.map .str)=true:=gd (fun _=>rfl) l
theorem Nj {n:Nat} (l:List Int):fj n (l.map .int)=true:=gd (fun _=>rfl) l
theorem dY (n:Nat) (f:Fc):lt n (fT f)=true:=by simp [fT,lt,fj,lx]
theorem tN (n:Nat) (f:Kd):lt n (kT f)=true:=by simp [kT,lt,fj]
theorem ly (n:Nat) (f:Cs × Cs):lt n (pT f)=true:=by simp [pT,lt,fj]
theorem mT (n:Nat) (f:Lk):lt n (lT f)=true:=by simp [lT,lt,jG]
theorem E5 (n:Nat) (f:Lk):lt n (Cb f)=true:=by simp [Cb,lt,fj]
theorem lt_str (n:Nat) (x:Cs):lt n (.str x)=true:=by simp [lt]
theorem lt_int (n:Nat) (x:Int):lt n (.int x)=true:=by simp [lt]
theorem aW {α:Type} {n:Nat} {g:α->T} {l:List α} (h:∀n x,lt n (g x)=true):lt n (.lst (l.map g))=true:=by rw [lt];exact gd (h n) l
theorem Lv {α:Type} {n:Nat} {g:α->T} {l:List α} (h:∀n x,lt n (g x)=true):lt n (.tup (l.map g))=true:=by rw [lt];exact gd (h n) l
theorem Nk (n:Nat) (r:Rl):lt n (xT r)=true:=by simp [xT,lt,fj,gd,dY,ly,E5]
theorem jS (n:Nat) (r:Rl):lt n (aB r)=true:=by simp [aB,lt,jG,gd,dY,ly,mT,lx]
theorem Lw (n:Nat) (ks:List Kd) (rs:List Rl):lt n (cQ ks rs)=true:=by simp [cQ,lt,jG,gd,tN,jS]
theorem E6 (n:Nat):∀st:Bk.iQ,lt n (Ng st)=true
 | []=>rfl
 | (a,b)::st=>by have:=E6 n st;simp only [Ng,lt,Q4,yU] at this ⊢;simp [lt,this]
theorem dZ {L:aa} {c t:T} (h:lt L.length t=true):fin L t (c::L)=.ok t L:=iO (Ln:=[c]) h
theorem HH {L:aa} {c d t:T} (h:lt L.length t=true):fin L t (d::c::L)=.ok t L:=iO (Ln:=[d,c]) h
theorem gf (L:aa):old L L:=fun _ _ e=>.inl e
theorem yl {L Ln:aa} {c:T} {n:Nat} (ha:at_ (Ln++L) n=some c) (hn:L.length<=n) (h:lt L.length c=true):fin L (.ref n) (Ln++L)=.ok c L:=by
 have e:(Ln++L).drop ((Ln++L).length - L.length)=L:=by rw [QT,VP,Vh]
 unfold fin;rw [e,if_pos (gf L)];unfold bZ;have:¬ lt L.length (.ref n)=true:=by rw [lt];simp;omega
 rw [if_neg this];simp only [ha];unfold bZ;rw [if_pos h];rfl
theorem cf {L:aa} {c:T} (h:lt L.length c=true):fin L (.ref L.length) (c::L)=.ok c L:=yl (Ln:=[c]) dy (Q3 _) h
theorem Lx {L:aa} {c d:T} (h:lt L.length d=true):fin L (.ref (L.length+1)) (d::c::L)=.ok d L:=yl (Ln:=[d,c]) rS (SO _) h
theorem HI {a b:Cs} {L:aa}:sx (.str a) (.str b) L=.ok (a == b) L:=rfl
theorem HJ {a b:Int} {L:aa}:sx (.int a) (.int b) L=.ok (a == b) L:=rfl
theorem HK {α:Type} {r:R α}:a8 (0<=lim) r=r:=if_pos (Rf _)
theorem HL {α:Type} {r:R α}:a8 (0+1<=lim) r=r:=if_pos (by decide)
theorem E7 {α:Type} {r:R α}:a8 (1<=lim) r=r:=if_pos (by decide)
theorem HM {α:Type} {r:R α}:a8 (2<=lim) r=r:=if_pos (by decide)
theorem HN {α:Type} {r:R α}:a8 (3<=lim) r=r:=if_pos (by decide)
theorem HO {α:Type} {r:R α}:a8 (4<=lim) r=r:=if_pos (by decide)
theorem HP {α:Type} {r:R α}:a8 (5<=lim) r=r:=if_pos (by decide)
theorem HQ {α:Type} {r:R α}:a8 (6<=lim) r=r:=if_pos (by decide)
theorem Ly (n:Nat):(n:Int)+1=((n+1:Nat):Int):=rfl
theorem Lz (n:Nat):(n:Int)+2=((n+2:Nat):Int):=rfl
theorem LA:S ")"=[41]:=rfl
theorem LB:S "("=[40]:=rfl
theorem LC:S ","=[44]:=rfl
theorem LD:S " "=[32]:=rfl
theorem LF:S ":"=[58]:=rfl
theorem LG:S ";"=[59]:=rfl
theorem LH:S "="=[61]:=rfl
theorem LI:S ""=[]:=rfl
theorem LJ:S "#"=[35]:=rfl
theorem HR {α:Type} {r:R α} [Decidable True]:a8 True r=r:=if_pos trivial
theorem LK {fz:Bool} {i j:Int} {L:aa}:aH fz .Add (.int i) (.int j) L=.ok (.int (i+j)) L:=rfl
theorem LL {fz:Bool} {i j:Int} {L:aa}:aH fz .Sub (.int i) (.int j) L=.ok (.int (i - j)) L:=rfl
theorem LM {fz:Bool} {i j:Int} {L:aa}:aH fz .Mult (.int i) (.int j) L=a8 (su i j) (.ok (.int (i * j)) L):=rfl
theorem LN {fz:Bool} {i j:Int} {L:aa}:aH fz .FloorDiv (.int i) (.int j) L=a8 (vA j) (.ok (.int (i / j)) L):=rfl
theorem LO {fz:Bool} {i j:Int} {L:aa}:aH fz .Mod (.int i) (.int j) L=a8 (0<j) (.ok (.int (i % j)) L):=rfl
theorem P0 {fz:Bool} {i j:Int} {L:aa}:aH fz .Pow (.int i) (.int j) L=a8 (Cp i j) (.ok (.int (i ^ j.toNat)) L):=rfl
theorem LP {fz:Bool} {a b:Cs} {L:aa}:aH fz .Add (.str a) (.str b) L=a8 (a.length+b.length<=lim) (.ok (.str (a++b)) L):=rfl
theorem LQ {fz:Bool} {ch:Nat} {j:Int} {L:aa}:aH fz .Mult (.str [ch]) (.int j) L=a8 (qF j) (.ok (.str (Q7 j.toNat ch)) L):=rfl
theorem LR {fz:Bool} {a b:List T} {L:aa}:aH fz .Add (.lst a) (.lst b) L=fk fz (a++b) L:=rfl
theorem p8 (a b:SE) (φ:Fr) (L:aa) {i j:Int} {L1 L2:aa} (ha:a φ L=.ok (.int i) L1) (hb:b φ L1=.ok (.int j) L2) (hi:qG i/\qG j):ud a b φ L=.ok (upTo i (j - i).toNat,fun _=>True) L2:=by
 unfold ud;rw [ha,ao,hb,ao];exact if_pos hi
theorem gV {n:Nat} (h:n<=1000000):qG n:=by unfold qG;constructor <;> omega
theorem LS {y:T} {xs:List T} {L:aa}:ix (.ref L.length) y (.lst xs::L)=ix (.lst xs) y (.lst xs::L):=by unfold ix;simp only [fc,dy,dX];rfl
theorem HS {fz:Bool} {a b:Option Int} {xs:List T} {L:aa}:mr fz (.ref L.length) a b (.lst xs::L)=mr fz (.lst xs) a b (.lst xs::L):=by unfold mr;simp only [fc,dy,dX];rfl
theorem LU {fz:Bool} {a b:Option Int} {xs:List T} {c:T} {L:aa}:mr fz (.ref (L.length+1)) a b (.lst xs::c::L)=mr fz (.lst xs) a b (.lst xs::c::L):=HS (L:=c::L)
theorem LV {c d e f:T} {L:aa}:put (e::d::c::L) (L.length+2) f=f::d::c::L:=rU (L:=d::c::L)
theorem az {α:Type} {c:Prop} {i:Decidable c} {r:R α} (h:c):@a8 α c i r=r:=if_pos h
theorem HT {a b:Cs}:(a != b) = !(a == b):=rfl
theorem LW {ch:Nat} {b:Cs} {L:aa}:jy (.str [ch]) (.str b) L=.ok (decide (ch∈b)) L:=rfl
theorem any_eq {α:Type} [DecidableEq α] {g:α->T} (hg:∀a b,eqT (g a) (g b)=decide (a=b)) (x:α):∀ys:List α,((ys.map g).any fun y=>eqT y (g x))=decide (x∈ys)
 | []=>by simp
 | y::ys=>by
  rw [Q4,List.any_cons,any_eq hg x ys,hg,<- Bool.decide_or];exact decide_eq_decide.mpr ⟨fun h=>h.elim (fun e=>by rw [e];exact QR) (QV _),fun h=>(Q5.mp h).imp Eq.symm id⟩
theorem fG {α:Type} {g:α->T} {n:Nat} (h:∀a,dat n (g a)=true) (l:List α):(l.map g).all (dat n)=true:=by simp [h]
theorem Cc (a b:Cs):eqT (.str a) (.str b)=decide (a=b):=by
 show(a == b)=_;by_cases h:a=b <;> simp [h]
theorem Cd {α:Type} [DecidableEq α] {f:T->T->Bool} {g:α->T} (h:∀a b,f (g a) (g b)=decide (a=b)):∀a b:List α,jx f (a.map g) (b.map g)=decide (a=b)
 | [],[]=>by simp [jx]
 | [],_::_=>by simp [jx]
 | _::_,[]=>by simp [jx]
 | x::a,y::b=>by
  rw [Q4,Q4,jx,h,Cd h a b];by_cases h1:x=y <;> by_cases h2:a=b <;> simp [h1,h2]
theorem Ce (n:Nat) (a b:Cs):qD (n+1) (.str a) (.str b)=decide (a=b):=by
 show(a == b)=_;by_cases h:a=b <;> simp [h]
theorem tP (a b:Fc):eqT (fT a) (fT b)=decide (a=b):=by
 obtain⟨k,as⟩:=a;obtain⟨k',as'⟩:=b;show(qD 7 (.str k) (.str k') && (jx (qD 6) (as.map .str) (as'.map .str) && true))=_
 rw [Ce,Cd (Ce 5)];by_cases h1:k=k' <;> by_cases h2:as=as' <;> simp [h1,h2]
theorem qa (n:Nat) (a:Cs):dat (n+1) (.str a)=true:=rfl
theorem ju (a:Fc):dat 8 (fT a)=true:=by
 show(dat 7 (.str a.k) && ((a.as.map .str).all (dat 6) && true))=true;rw [qa,fG (qa 5)];rfl
theorem A9 {x:Cs} {ys:List Cs} {L:aa}:jy (.str x) (.lst (ys.map .str)) L=.ok (decide (x∈ys)) L:=by
 show a8 _ _=_;rw [aP ⟨rfl,fG (qa 7) ys⟩,any_eq Cc];exact congrArg (R.ok · L) (decide_eq_decide.mpr Iff.rfl)
theorem LX {x:Cs} {ys:List Cs} {L:aa}:jy (.str x) (.tup (ys.map .str)) L=.ok (decide (x∈ys)) L:=by
 show a8 _ _=_;rw [aP ⟨rfl,fG (qa 7) ys⟩,any_eq Cc];exact congrArg (R.ok · L) (decide_eq_decide.mpr Iff.rfl)
theorem P1 {x:Cs} {t:T} {ys:List Cs} {L:aa} (h:vw L t=.lst (ys.map .str)):jy (.str x) t L=.ok (decide (x∈ys)) L:=by
 have:=A9 (x:=x) (ys:=ys) (L:=L);unfold jy at this ⊢;rw [h];exact this
theorem Nl {x:Fc} {t:T} {ys:List Fc} {L:aa} (h:vw L t=.lst (ys.map fT)):jy (fT x) t L=.ok (decide (x∈ys)) L:=by
 have:jy (fT x) (.lst (ys.map fT)) L=.ok (decide (x∈ys)) L:=by
  show a8 _ _=_;rw [aP ⟨ju x,fG ju ys⟩,any_eq tP]
 unfold jy at this ⊢;rw [h];exact this
theorem HU {x:Fc} {ys:List Fc} {L:aa}:jy (fT x) (.lst (ys.map fT)) L=.ok (decide (x∈ys)) L:=by
 show a8 _ _=_;rw [aP ⟨ju x,fG ju ys⟩,any_eq tP]
theorem HV {x:Fc} {ys:List Fc} {L:aa}:jy (fT x) (.tup (ys.map fT)) L=.ok (decide (x∈ys)) L:=by
 show a8 _ _=_;rw [aP ⟨ju x,fG ju ys⟩,any_eq tP]
section
variable {β:Type} {s:SI} {aA:List (Option Nat)} {i:Nat} {ts:ST} {m:SE} {φ:Fr} {L:aa} {k:aa->Prop} {r:R T} {fz:Bool}
theorem lz (hc:comp fz s aA (.one i) ts m φ L=r) (xs:List β) (enc:β->T) (p:β->Bool) (f:β->T) (hs:s φ L=.ok (xs.map enc,k) L) (hk:k L) (hl:xs.length<=lim)
  (ht:∀b∈xs,ts ((inner aA φ).set i (some (enc b))) L=.ok (p b) L) (hm:∀b∈xs,p b=true->m ((inner aA φ).set i (some (enc b))) L=.ok (f b) L):r=mk fz (.lst ((xs.filter p).map f)) L:=by
 subst hc;have key:∀(ys:List β) (acc:List T),(∀b∈ys,b∈xs)->acc.length+ys.length<=lim->compLoop k (.one i) ts m (inner aA φ) (ys.map enc) acc L=.ok (acc++(ys.filter p).map f) L:=by
  intro ys;induction ys with
  | nil=>intro acc _ _;simp [compLoop,hk]
  | cons b ys ih =>
   intro acc hb hz;have hx:=hb b QR
   simp only [QX] at hz;rw [Q4,compLoop,if_pos ⟨hk,by omega⟩];simp only [Tg.set,ht b hx,ao];cases hp:p b with
   | true=>rw [if_pos rfl,hm b hx hp,ao,ih _ (fun c hc=>hb c (QV _ hc)) (by simp;omega)];simp [hp]
   | false=>rw [if_neg (by simp),ih _ (fun c hc=>hb c (QV _ hc)) (by omega)];simp [hp]
 rw [comp,hs,ao,key xs [] (fun _ h=>h) (by simpa using hl),ao];rfl
theorem cV (hc:comp fz s aA (.one i) yes m φ L=r) (xs:List β) (enc:β->T) (f:β->T) (hs:s φ L=.ok (xs.map enc,k) L) (hk:k L) (hl:xs.length<=lim)
  (hm:∀b∈xs,m ((inner aA φ).set i (some (enc b))) L=.ok (f b) L):r=mk fz (.lst (xs.map f)) L:=by
 have:=lz hc xs enc (fun _=>true) f hs hk hl (fun _ _=>rfl) fun b hb _=>hm b hb
 rw [this,Xk.mpr (fun _ _=>rfl)]
end
noncomputable def xe (Q:Fr->aa->Prop) (R:T->aa->Prop) (B:Fr->aa->Prop):O->Prop
 | .nx φ L=>Q φ L
 | .ct φ L=>Q φ L
 | .rt t L=>R t L
 | .bk φ L=>B φ L
 | .bad=>False
theorem tQ {Q R B φ L}:xe Q R B (.nx φ L)=Q φ L:=rfl
theorem HW {Q R B φ L}:xe Q R B (.ct φ L)=Q φ L:=rfl
theorem HX {Q R B t L}:xe Q R B (.rt t L)=R t L:=rfl
theorem HY {Q R B φ L}:xe Q R B (.bk φ L)=B φ L:=rfl
section
variable {β:Type} {k:aa->Prop} {tg:Tg} {b:SS} {φ:Fr} {L:aa} {o:O} {ts:List T}
theorem mU (ho:forL k tg b ts φ L=o) (xs:List β) (enc:β->T) (J:List β->Fr->aa->Prop) (P:O->Prop) (hx:ts=xs.map enc) (hJ:J xs φ L)
  (step:∀(J':List β->Fr->aa->Prop) (P':O->Prop),(∀{r φ L},J' r φ L=J r φ L)->(∀{o},P' o=P o)->∀x r φ L,J (x::r) φ L->k L/\∃φ1,tg.set (enc x) φ=some φ1/\xe (J' r) (fun t L=>P' (.rt t L)) (fun φ L=>P' (.nx φ L)) (b φ1 L))
  (done:∀φ L,J [] φ L->k L/\P (.nx φ L)):P o:=by
 subst ho hx
 replace step:=step J P rfl rfl
 induction xs generalizing φ L with
 | nil=>obtain⟨h1,h2⟩:=done φ L hJ;rw [UP,forL,if_pos h1];exact h2
 | cons x r ih =>
  obtain⟨h1,φ1,h2,h3⟩:=step x r φ L hJ;rw [Q4,forL,if_pos h1];simp only [h2];cases e:b φ1 L with
  | nx φ2 L2=>rw [e] at h3;exact ih h3
  | ct φ2 L2=>rw [e] at h3;exact ih h3
  | rt t L2=>rw [e] at h3;exact h3
  | bk φ2 L2=>rw [e] at h3;exact h3
  | bad=>rw [e] at h3;exact h3.elim
theorem lA {α:Type} {i:Nat} (xs:List α) (enc:α->T) (F:Option T->Fr) {z:Option T} (ho:forL k (.one i) b (xs.map enc) (F z) L=o) (hk:k L) (hF:∀z x,(F z).set i (some x)=F (some x)) (hb:∀x∈xs,b (F (some (enc x))) L=.nx (F (some (enc x))) L):∃z,o=.nx (F z) L :=
 mU ho xs enc (fun r φ L'=>(∀x∈r,x∈xs)/\L'=L/\∃z,φ=F z) (fun o=>∃z,o=.nx (F z) L) rfl ⟨fun _ h=>h,rfl,z,rfl⟩ (fun _ _ eJ eP x r φ L' hh=>by
  obtain⟨h,rfl,z,rfl⟩:=hh;refine⟨hk,_,rfl,?_⟩;rw [hF,hb x (h x QR),tQ,eJ];exact⟨fun y hy=>h y (QV _ hy),rfl,_,rfl⟩) fun φ L' hh=>by
  obtain⟨_,rfl,z,rfl⟩:=hh;exact⟨hk,z,rfl⟩
theorem qb {α β γ:Type} {i:Nat} (xs:List α) (enc:α->T) (E:β->T) (g:β->α->β) (N:List α->β->Prop) (F:Option T->γ->Fr) {z:Option T} {w:γ} {s:β} (ho:forL k (.one i) b (xs.map enc) (F z w) (E s::L)=o) (hk:∀s,k (E s::L)) (hF:∀z w x,(F z w).set i (some x)=F (some x) w) (hN:N xs s)
  (hb:∀x r s w,N (x::r) s->N r (g s x)/\∃w',b (F (some (enc x)) w) (E s::L)=.nx (F (some (enc x)) w') (E (g s x)::L)):∃z w,o=.nx (F z w) (E (xs.foldl g s)::L) :=
 mU ho xs enc (fun r φ L'=>∃z w s',N r s'/\r.foldl g s'=xs.foldl g s/\φ=F z w/\L'=E s'::L) (fun o=>∃z w,o=.nx (F z w) (E (xs.foldl g s)::L)) rfl ⟨z,w,s,hN,rfl,rfl,rfl⟩ (fun _ _ eJ eP x r φ L' hh=>by
  obtain⟨z,w,s',h,e,rfl,rfl⟩:=hh;refine⟨hk _,_,rfl,?_⟩;obtain⟨h1,w',h2⟩:=hb x r s' w h;rw [hF,h2,tQ,eJ];exact⟨_,w',_,h1,e,rfl,rfl⟩) fun φ L' hh=>by
  obtain⟨z,w,s',_,e,rfl,rfl⟩:=hh;exact⟨hk _,z,w,by rw [<- e];rfl⟩
theorem tR {kk:ST} {fuel:Nat} (ho:lO kk b fuel φ L=o) (J:Nat->Fr->aa->Prop) (P:O->Prop) {n:Nat} (hn:n<fuel) (hJ:J n φ L)
  (step:∀(J':Nat->Fr->aa->Prop) (P':O->Prop),(∀{r φ L},J' r φ L=J r φ L)->(∀{o},P' o=P o)->∀n φ L,J n φ L->(kk φ L=.ok false L/\P' (.nx φ L))\/(kk φ L=.ok true L/\xe (fun φ L=>∃m,m<n/\J' m φ L) (fun t L=>P' (.rt t L)) (fun φ L=>P' (.nx φ L)) (b φ L))):P o:=by
 subst ho
 replace step:=step J P rfl rfl
 induction fuel generalizing n φ L with
 | zero=>omega
 | succ fuel ih =>
  rw [lO];rcases step n φ L hJ with⟨h1,h2⟩|⟨h1,h3⟩
  ·simp only [h1,of_ok];exact h2
  ·simp only [h1,of_ok,if_true]
   cases e:b φ L with
   | nx φ2 L2=>rw [e] at h3;obtain⟨m,hm,hj⟩:=h3;exact ih (by omega) hj
   | ct φ2 L2=>rw [e] at h3;obtain⟨m,hm,hj⟩:=h3;exact ih (by omega) hj
   | rt t L2=>rw [e] at h3;exact h3
   | bk φ2 L2=>rw [e] at h3;exact h3
   | bad=>rw [e] at h3;exact h3.elim
end
theorem E8 (n:Nat) (k:Int) (φ:Fr) (L:aa):vi n k φ L=(lift ((φ[n]?).join) L).bind fun x L1=>ix x (.int k) L1:=rfl
theorem ite_tt {α:Type} {a b:α}:(if true=true then a else b)=a:=rfl
theorem ite_ff {α:Type} {a b:α}:(if false=true then a else b)=b:=rfl
end M
section
open M
set_option hygiene false in
local macro_rules|`(tactic| simp_arith $[$d:discharger]? [$ls,*])=>`(tactic| simp $[$d:discharger]? only [↓ite_tt,↓ite_ff,E8,mR,rQ,bD,FI,K6,K7,Hj,EC,Hk,ED,Hl,EE,EF,Hm,EG,Hn,Ho,Hq,Hr,EH,K8,pS,tH,B0,EI,EJ,EK,Hs,Ht,Hu,xU,B1,B2,Hv,B3,xV,EL,EM,xW,AZ,A0,EN,EO,A3,A4,ER,ES,lj,jd,ET,EU,xX,Bv,Tr,fk,_root_.M.mk,LK,LL,LM,LN,vA,qF,LO,LP,LQ,LR,_root_.M.cmp,y9,IB,IC,ID,Cq,LW,A9,LX,HU,HV,_root_.M.vw,IE,ao,of_ok,aY,AV,cm,EA,Tg.set,_root_.M.sets,di,xS,AW,AX,AY,EB,_root_.M.neg,ag,
 QX,RO,Q4,UP,Tt,RQ,Q7,U1,List.getElem?_cons_succ,S8,VR,VS,if_true,reduceIte,QW,Nat.reduceAdd,Xu,Nat.zero_add,Pu,Pw,Nh,Px,Ni,Py,Pz,PB,PC,PD,PF,PH,PJ,PK,PL,Lh,Li,Lj,Ll,yk,E3,Lm,Lq,Lr,Ls,PW,PM,PN,PQ,PR,PU,PV,PX,PY,PZ,flb,vf,vk,vp,vx,vr,dy,n7,E4,rS,HF,Lu,rU,A8,HG,LV,LS,HS,LU,fc,dX,tQ,HW,HX,HY,_root_.M.inner,aD,bH,cA,jM,nM,fV,jO,jN,fv,zm,_root_.M.items,jW,Option.map_some,Tr,SV,TZ,Lm9,HI,HJ,HK,HL,E7,HM,HN,HO,HP,HQ,Ly,Lz,LA,LB,LC,LD,LF,LG,LH,LI,LJ,HT,List.cons_beq_cons,Nat.reduceBEq,Bool.true_and,Vt,Bool.false_and,UB,beq_self_eq_true,HR,Int.reduceLT,Int.reduceLE,Int.reduceNeg,Int.reducePow,Int.reduceToNat,su,and_self,or_true,true_or,$ls,*])
local macro_rules|`(tactic| simp_arith)=>`(tactic| simp_arith [mR])
local macro_rules|`(tactic| simp_all_arith [$ls,*])=>`(tactic| simp_arith (disch:=first|assumption|(simp only [QT,QX,RO,Lm9,Sw,Ru,lim] <;> omega)|omega) [az,$ls,*])
local macro_rules|`(tactic| simp_all_arith)=>`(tactic| simp_all_arith [mR])
namespace y6
open PySem M
open Hw (fb aw cZ)
open Bk (Fc Kd Lk Rl av great aQ W Tk EW between cD glue FG gS gT wordAt gR rows fP gU oG Im fI lI pI dW f7 je opens dQ pY bJ aM KG bV aq bO fF nZ dP x7 fQ tJ tK bf La)
def iR:T:=.str (S "abcdefghijklmnopqrstuvwxyz")
def iS:T:=.str (S "ABCDEFGHIJKLMNOPQRSTUVWXYZ")
def ji:T:=.str (S "0123456789")
def jj:T:=.int 12
def n8:T:=.tup [.tup [],.tup [],.tup [],.bl false]
def lB:T:=.tup [.tup [],.tup [],.tup [],.bl true]
def fH:T:=.str (S "(),:;=")
def fJ:T:=.tup [.str (S "passing"),.str (S "lasting")]
def cq:T:=.str (S "rule")
def bF:T:=.tup [.str (S "take"),.str (S "keep"),.str (S "look"),.str (S "put"),.str (S "tell")]
def lC:T:=.tup [.str (S "0"),.str (S "1"),.str (S "2"),.str (S "3"),.str (S "4")]
def aN:Fn:=run 3 7 (ab [asg (.one 3) (b2 (c (.int 1)) (b2 (v 0) (c (.int 11)) (aH true .Mod)) (aH true .Add)),asg (.one 4) (b2 (c (.str (S "mQ7"))) (b2 (b2 (v 0) (c (.int 11)) (aH true .FloorDiv)) (c (.int 3)) (aH true .Mod)) ix),asg (.one 5) (b2 (b2 (v 0) (c (.int 33)) (aH true .FloorDiv)) (v 3) (aH true .Mod)),asg (.one 6) (b2 (c (.str (S "m"))) (b2 (v 4) (b2 (v 3) (c (.int 1)) (aH true .Sub)) (aH true .Mult)) (aH true .Add)),asg (.one 6) (b2 (b2 (sl true (v 6) none (some (v 5))) (b2 (c (.str (S "abcdefgh"))) (v 1) ix) (aH true .Add)) (sl true (v 6) (some (b2 (v 5) (c (.int 1)) (aH true .Add))) none) (aH true .Add)),iff (tv (b2 (b2 (b2 (v 0) (c (.int 363)) (aH true .FloorDiv)) (c (.int 4)) (aH true .Mod)) (c (.int 1)) (cmp .Eq))) (ab [asg (.one 6) (b2 (c (.str (S "m"))) (b2 (v 4) (v 1) (aH true .Mult)) (aH true .Add))]) (ab []),iff (tv (b2 (b2 (b2 (v 0) (c (.int 363)) (aH true .FloorDiv)) (c (.int 4)) (aH true .Mod)) (c (.int 2)) (cmp .Eq))) (ab [asg (.one 6) (b2 (b2 (c (.str (S "abwxnuvz"))) (b2 (b2 (v 0) (c (.int 1452)) (aH true .FloorDiv)) (c (.int 8)) (aH true .Mod)) ix) (af lQ [v 1]) (aH true .Add))]) (ab []),iff (tv (b2 (b2 (b2 (v 0) (c (.int 11616)) (aH true .FloorDiv)) (c (.int 2)) (aH true .Mod)) (c (.int 1)) (cmp .Eq))) (ab [ret (b2 (v 2) (v 6) (aH true .Add))]) (ab []),iff (tv (b2 (v 2) (c (.str (S "Q"))) (cmp .Eq))) (ab [ret (b2 (no) (sl true (v 6) (some (c (.int 1))) none) (aH true .Add))]) (ab []),ret (v 6)])
def aG:Fn:=run 1 1 (ab [iff (tv (b2 (vi 0 1) (tup []) (cmp .Eq))) (ab [ret (vi 0 0)]) (ab []),ret (b2 (b2 (b2 (vi 0 0) (c (.str (S "("))) (aH true .Add)) (ar (fV) (c (.str (S ","))) [vi 0 1]) (aH true .Add)) (c (.str (S ")"))) (aH true .Add))])
def bg:Fn:=uE 2 2 (ab [iff (tv (b2 (v 1) (lst true []) (cmp .Eq))) (ab [ret (lst false [])]) (ab []),ret (lst false [b2 (b2 (v 0) (c (.str (S " "))) (aH true .Add)) (ar (fV) (c (.str (S ", "))) [v 1]) (aH true .Add)])])
def bw:Fn:=run 2 3 (ab [asg (.one 2) (af bg [c (.str (S "take")),comp true (src (vi 1 0)) [none,none] (.one 1) yes (af aG [v 1])]),aug .Add 2 (af bg [c (.str (S "keep")),comp true (src (vi 1 1)) [none,none] (.one 1) yes (af aG [v 1])]),aug .Add 2 (af bg [c (.str (S "look")),comp true (src (vi 1 2)) [none,none] (.one 1) yes (ar (fV) (c (.str (S " "))) [v 1])]),aug .Add 2 (af bg [c (.str (S "put")),comp true (src (vi 1 3)) [none,none] (.one 1) yes (af aG [v 1])]),aug .Add 2 (af bg [c (.str (S "tell")),comp true (src (vi 1 4)) [none,none] (.one 1) yes (ar (fV) (c (.str (S " = "))) [v 1])]),ret (b2 (b2 (b2 (c (.str (S "rule "))) (v 0) (aH true .Add)) (c (.str (S ": "))) (aH true .Add)) (ar (fV) (c (.str (S "; "))) [v 2]) (aH true .Add))])
def bx:Fn:=run 3 6 (ab [asg (.one 3) (lst false []),aT (src (v 0)) (.one 4) (ab [df (ar (aD) (v 3) [b2 (b2 (b2 (FO (tv (vi 4 2)) (c (.str (S "lasting "))) (c (.str (S "passing ")))) (vi 4 0) (aH true .Add)) (c (.str (S " "))) (aH true .Add)) (af lQ [vi 4 1]) (aH true .Add)])]),aT (ud (c (.int 0)) (af di [v 1])) (.one 5) (ab [df (ar (aD) (v 3) [af bw [af aN [v 2,v 5,c (.str (S "k"))],b2 (v 1) (v 5) ix]])]),ret (ar (fV) (c (.str (S "\n"))) [v 3])])
def aI:Fn:=run 2 4 (ab [asg (.one 2) (FO (tv (b2 (v 1) (af di [v 0]) (cmp .Lt))) (b2 (v 0) (v 1) ix) (c (.int 0))),asg (.one 3) (b2 (b2 (b2 (b2 (b2 (v 2) (c (.int 1000000007)) (aH true .Mod)) (b2 (b2 (c (.int 17)) (v 1) (aH true .Mult)) (v 1) (aH true .Mult)) (aH true .Add)) (c (.int 5)) (aH true .Add)) (c (.int 48271)) (aH true .Mult)) (c (.int 2147483647)) (aH true .Mod)),ret (b2 (b2 (v 3) (v 3) (aH true .Mult)) (c (.int 2147483629)) (aH true .Mod))])
def ba:Fn:=run 4 8 (ab [asg (.one 4) (af aI [v 0,v 1]),asg (.one 5) (lst true [tup [b2 (v 2) (b2 (v 4) (c (.int 2)) (aH true .Mod)) ix,tup []]]),iff (tv (b2 (b2 (b2 (v 4) (c (.int 2)) (aH true .FloorDiv)) (c (.int 2)) (aH true .Mod)) (c (.int 0)) (cmp .Eq))) (ab [asg (.one 6) (lst false []),aT (ud (c (.int 0)) (b2 (b2 (v 4) (c (.int 4)) (aH true .FloorDiv)) (c (.int 4)) (aH true .Mod))) (.one 7) (ab [df (ar (aD) (v 6) [tup [b2 (v 2) (b2 (b2 (b2 (v 4) (c (.int 16)) (aH true .FloorDiv)) (b2 (v 7) (c (.int 1)) (aH true .Add)) (aH true .FloorDiv)) (c (.int 2)) (aH true .Mod)) ix,tup []]])]),ret (tup [v 5,lst true [],lst true [],v 6,lst true []])]) (ab []),iff (tv (b2 (b2 (b2 (v 4) (c (.int 4)) (aH true .FloorDiv)) (c (.int 4)) (aH true .Mod)) (c (.int 0)) (cmp .Eq))) (ab [ret (tup [lst true [],v 5,lst true [],lst true [],lst true []])]) (ab []),ret (tup [lst true [],v 5,lst true [],lst true [tup [v 3,tup []]],lst true []])])
def fK:Fn:=run 2 3 (ab [iff (vm [dK (tv (af Cu [v 0,c (.cl (.type "tuple"))])),tv (b2 (af di [v 0]) (c (.int 3)) (cmp .NotEq))]) (ab [ret (c (.bl false))]) (ab []),aT (ud (c (.int 0)) (c (.int 2))) (.one 2) (ab [iff (fW [tv (b2 (b2 (b2 (v 1) (v 2) ix) (c (.int 0)) ix) (lst true []) (cmp .NotEq)),tv (b2 (v 0) (tup [tup [tup [b2 (b2 (b2 (v 1) (v 2) ix) (c (.int 0)) ix) (c (.int 0)) ix],tup [],tup [],c (.bl false)],tup [v 2,tup []],tup [v 2,tup []]]) (cmp .Eq))]) (ab [ret (c (.bl true))]) (ab [])]),ret (c (.bl false))])
def jv:Fn:=run 1 1 (ab [ret (c (.str (S "same")))])
def gW:Fn:=run 1 1 (ab [ret (c (.str (S "unlike")))])
def cE:Fn:=run 3 4 (ab [asg (.one 3) (comp true (src (b1 (v 0) (fld "looks"))) [none,none,some 1] (.one 1) (tv (b2 (mZ "word" (fun y=>([("Unlike",gW),("Same",jv)]:List (Str × Fn)).lookup y) (v 1) []) (v 2) (cmp .Eq))) (v 1)),ret (comp true (src (v 3)) [none,none,some 2] (.one 1) yes (tup [ar (bH) (v 2) [b1 (v 1) (fld "left"),b1 (v 1) (fld "left")],ar (bH) (v 2) [b1 (v 1) (fld "right"),b1 (v 1) (fld "right")]]))])
def bz:Fn:=run 2 2 (ab [ret (tup [vi 1 0,af jW [comp true (src (vi 1 1)) [none,none,some 0] (.one 1) yes (ar (bH) (v 2) [v 1,v 1])]])])
def gg:Fn:=run 4 8 (ab [asg (.one 4) (b2 (b1 (v 1) (fld "rules")) (v 2) ix),asg (.one 5) (comp true (src (b1 (v 1) (fld "kinds"))) [none,none] (.one 1) (tv (vi 1 2)) (vi 1 0)),asg (.one 6) (af bK [comp true (zf (b1 (v 4) (fld "names"))) [none,none,none,some 3] (.many [1,2]) yes (tup [v 2,b2 (v 3) (af lQ [v 1]) (aH true .Add)])]),asg (.one 7) (comp true (src (b2 (b1 (v 4) (fld "taken")) (b1 (v 4) (fld "kept")) (aH true .Add))) [none,none,some 6] (.one 1) yes (af bz [v 2,v 1])),dM (v 0) "number" (v 2),dM (v 0) "names" (comp true (src (b1 (v 4) (fld "names"))) [none,none,some 6] (.one 1) yes (b2 (v 2) (v 1) ix)),dM (v 0) "passing" (comp true (src (v 7)) [none,none,some 5] (.one 1) (tv (b2 (vi 1 0) (v 2) (cmp .NotIn))) (v 1)),dM (v 0) "lasting" (comp true (src (v 7)) [none,none,some 5] (.one 1) (tv (b2 (vi 1 0) (v 2) (cmp .In))) (v 1)),dM (v 0) "takes" (af di [b1 (v 4) (fld "taken")]),dM (v 0) "same" (af cE [v 4,c (.str (S "same")),v 6]),dM (v 0) "unlike" (af cE [v 4,c (.str (S "unlike")),v 6])])
def og:Fn:=make "Side" gg
def d5:Fn:=run 1 1 (ab [ret (b2 (af (jq true) [comp true (src (v 0)) [none,none] (.one 1) yes (tup [vi 1 1,vi 1 0])]) (af (jq true) [v 0]) (cmp .Lt))])
def cF:Fn:=run 3 4 (ab [asg (.one 3) (comp true (src (v 2)) [none,none] (.one 1) yes (vi 1 1)),ret (comp true (zf (b1 (v 0) (fld "passing"))) [none,none,none,some 1,some 3] (.many [1,2]) (fW [tv (b2 (vi 2 0) (vi 3 0) (cmp .Eq)),tv (b2 (v 1) (v 4) (cmp .NotIn))]) (v 1))])
def d6:Fn:=run 3 3 (ab [ret (vh [b2 (vi 2 0) (b1 (v 0) (fld "takes")) (cmp .Lt),b2 (vi 2 1) (b1 (v 1) (fld "takes")) (cmp .Lt)])])
def d7:Fn:=run 2 7 (ab [asg (.one 2) (lst true [lst true []]),aT (zf (b1 (v 0) (fld "passing"))) (.many [3,4]) (ab [asg (.one 5) (lst false []),aT (src (v 2)) (.one 6) (ab [df (ar (cA) (v 5) [comp true (src (af cF [v 1,v 4,v 6])) [none,none,some 6,some 3] (.one 1) yes (b2 (v 2) (lst true [tup [v 3,v 1]]) (aH true .Add))])]),asg (.one 2) (b2 (v 2) (v 5) (aH true .Add))]),ret (comp true (src (v 2)) [none,none,some 0,some 1] (.one 1) (tv (af m4 [comp true (src (v 1)) [none,none,some 2,some 3] (.one 1) yes (af d6 [v 2,v 3,v 1])])) (v 1))])
def gh:Fn:=run 2 2 (ab [ret (tup [ar (bH) (v 0) [vi 1 0,vi 1 0],ar (bH) (v 0) [vi 1 1,vi 1 1]])])
def gJ:Fn:=run 3 4 (ab [iff (tv (af m4 [comp true (src (b1 (v 0) (fld "given"))) [none,none,some 2,some 1] (.one 1) yes (b2 (af bz [v 3,v 1]) (v 2) (cmp .NotIn))])) (ab [ret (c (.bl true))]) (ab []),asg (.one 3) (comp true (src (b1 (v 0) (fld "told"))) [none,none,some 1] (.one 1) yes (af gh [v 2,v 1])),ret (af m4 [comp true (src (v 3)) [none,none] (.one 1) yes (b2 (vi 1 0) (vi 1 1) (cmp .NotEq))])])
def dz:Fn:=run 2 2 (ab [iff (vm [tv (b2 (vi 1 0) (c (.int 0)) (cmp .Lt)),tv (b2 (vi 1 0) (af di [b1 (v 0) (fld "rules")]) (cmp .GtE))]) (ab [fh]) (ab []),iff (tv (b2 (af di [vi 1 1]) (af di [b1 (b2 (b1 (v 0) (fld "rules")) (vi 1 0) ix) (fld "names")]) (cmp .NotEq))) (ab [fh]) (ab [])])
def c7:Fn:=run 4 7 (ab [asg (.one 4) (comp true (src (v 0)) [none,none] (.one 1) (tv (vi 1 2)) (vi 1 0)),asg (.one 5) (comp true (src (b2 (b1 (v 1) (fld "taken")) (b1 (v 1) (fld "kept")) (aH true .Add))) [none,none,some 2] (.one 1) yes (af bz [v 2,v 1])),aT (src (v 5)) (.one 6) (ab [iff (tv (b2 (vi 6 0) (v 4) (cmp .In))) (ab [iff (tv (b2 (v 6) (vi 3 1) (cmp .NotIn))) (ab [ret (c (.bl false))]) (ab [])]) (ab [iff (tv (b2 (ar (jM) (vi 3 0) [v 6]) (ar (jM) (v 5) [v 6]) (cmp .Lt))) (ab [ret (c (.bl false))]) (ab [])])]),ret (c (.bl true))])
def iT:Fn:=run 3 3 (ab [ret (b2 (v 1) (v 2) (cmp .Eq))])
def aE:Fn:=run 1 1 (ab [ret (b2 (vi 0 0) (c iS) (cmp .In))])
def gi:Fn:=run 3 3 (ab [ret (jz [oJ (af aE [v 1]),oJ (af aE [v 2]),b2 (v 1) (v 2) (cmp .NotEq)])])
def dA:Fn:=run 2 2 (ab [ret (af lP [comp true (src (b1 (v 0) (fld "looks"))) [none,none,some 1] (.one 1) yes (mZ "holds" (fun y=>([("Unlike",gi),("Same",iT)]:List (Str × Fn)).lookup y) (v 1) [ar (bH) (v 2) [b1 (v 1) (fld "left"),b1 (v 1) (fld "left")],ar (bH) (v 2) [b1 (v 1) (fld "right"),b1 (v 1) (fld "right")]])])])
def aR:Fn:=run 1 1 (ab [ret (b2 (af di [b1 (v 0) (fld "taken")]) (c (.int 0)) (cmp .Eq))])
def rV:Fn:=run 3 5 (ab [df (af dz [v 0,v 2]),iff (tv (vi 1 3)) (ab [ret (c (.bl false))]) (ab []),asg (.one 3) (b2 (b1 (v 0) (fld "rules")) (vi 2 0) ix),asg (.one 4) (af jr [b1 (v 3) (fld "names"),vi 2 1]),iff (vm [dK (tv (af dA [v 3,v 4])),dK (tv (af c7 [b1 (v 0) (fld "kinds"),v 3,v 4,v 1]))]) (ab [ret (c (.bl false))]) (ab []),ret (vh [oJ (mZ "calls" (fun y=>([("Rule",aR)]:List (Str × Fn)).lookup y) (v 3) []),af gJ [v 3,v 4,vi 1 1]])])
def iU:Fn:=run 3 3 (ab [ret (vh [oJ (mZ "calls" (fun y=>([("Rule",aR)]:List (Str × Fn)).lookup y) (b2 (b1 (v 0) (fld "rules")) (vi 2 0) ix) []),af rV [v 0,v 1,v 2]])])
def qc:Fn:=run 2 2 (ab [iff (dK (tv (af aE [v 0]))) (ab [ret (v 0)]) (ab []),iff (dK (tv (af aE [v 1]))) (ab [ret (v 1)]) (ab []),ret (af zk [v 0,v 1])])
def gK:Fn:=run 1 1 (ab [ret (af (dm true) [af bK [comp true (src (v 0)) [none,none] (.one 1) (tv (af aE [v 1])) (tup [v 1,c (.bl true)])]])])
def d9:Fn:=run 1 1 (ab [ret (af bK [comp true (zf (v 0)) [none,none,none] (.many [1,2]) yes (tup [v 2,b2 (c (.str (S "X"))) (af lQ [b2 (v 1) (c (.int 1)) (aH true .Add)]) (aH true .Add)])])])
def bP:Fn:=run 2 2 (ab [ret (af bK [comp true (zi (v 1)) [none,none,none,some 0] (.many [1,2]) yes (tup [v 1,ar (bH) (v 3) [v 2,v 2]])])])
def eg:Fn:=run 2 5 (ab [asg (.one 2) (lst false []),asg (.one 3) (c (.int 1)),lO (tv (b2 (af di [v 2]) (v 1) (cmp .Lt))) (ab [asg (.one 4) (b2 (c (.str (S "n"))) (af lQ [v 3]) (aH true .Add)),iff (tv (b2 (v 4) (v 0) (cmp .NotIn))) (ab [df (ar (aD) (v 2) [v 4])]) (ab []),aug .Add 3 (c (.int 1))]) lim,ret (v 2)])
def cG:Fn:=run 2 7 (ab [asg (.one 2) (af eg [v 0,v 1]),asg (.one 3) (lst true [tup [lst true [],c (.int 0)]]),aT (ud (c (.int 0)) (v 1)) (.one 4) (ab [asg (.one 5) (lst false []),aT (src (v 3)) (.one 6) (ab [df (ar (cA) (v 5) [comp true (src (b2 (v 0) (sl true (v 2) none (some (vi 6 1))) (aH true .Add))) [none,none,some 6] (.one 1) yes (tup [b2 (vi 2 0) (lst true [v 1]) (aH true .Add),vi 2 1])]),df (ar (aD) (v 5) [tup [b2 (vi 6 0) (lst true [b2 (v 2) (vi 6 1) ix]) (aH true .Add),b2 (vi 6 1) (c (.int 1)) (aH true .Add)]])]),asg (.one 3) (v 5)]),ret (comp true (src (v 3)) [none,none] (.one 1) yes (vi 1 0))])
def gL:Fn:=run 4 13 (ab [asg (.one 5) (comp true (src (b2 (b1 (v 1) (fld "unlike")) (b1 (v 2) (fld "unlike")) (aH true .Add))) [none,none,some 3] (.one 1) yes (tup [ar (bH) (v 2) [vi 1 0,vi 1 0],ar (bH) (v 2) [vi 1 1,vi 1 1]])),asg (.one 6) (ik false),aT (src (v 5)) (.one 4) (ab [df (ar (bu) (v 6) [af bK [comp true (src (v 4)) [none,none] (.one 1) yes (tup [v 1,c (.bl true)])]])]),asg (.one 7) (af gK [comp true (src (b2 (b1 (v 1) (fld "names")) (b1 (v 2) (fld "names")) (aH true .Add))) [none,none,some 3] (.one 1) yes (b2 (v 2) (v 1) ix)]),asg (.one 8) (comp true (src (v 7)) [none,none,some 6] (.one 1) (tv (b2 (v 1) (v 2) (cmp .In))) (v 1)),asg (.one 9) (af d9 [comp true (src (v 7)) [none,none,some 6] (.one 1) (tv (b2 (v 1) (v 2) (cmp .NotIn))) (v 1)]),asg (.one 10) (lst false []),aT (src (af cG [v 0,af di [v 8]])) (.one 11) (ab [asg (.one 12) (af bK [v 9]),df (ar (bu) (v 12) [af jr [v 8,v 11]]),iff (tv (af lP [comp true (src (v 5)) [none,none,some 12] (.one 1) yes (b2 (ar (bH) (v 2) [vi 1 0,vi 1 0]) (ar (bH) (v 2) [vi 1 1,vi 1 1]) (cmp .NotEq))])) (ab [df (ar (aD) (v 10) [af bP [v 12,v 3]])]) (ab [])]),ret (v 10)])
def aS:Fn:=run 2 4 (ab [asg (.one 2) (af bK [comp true (src (v 0)) [none,none] (.one 1) yes (tup [vi 1 0,vi 1 1])]),aT (src (v 1)) (.one 3) (ab [iff (tv (b2 (vi 3 0) (v 2) (cmp .NotIn))) (ab [fh]) (ab []),iff (tv (b2 (af di [vi 3 1]) (b2 (v 2) (vi 3 0) ix) (cmp .NotEq))) (ab [fh]) (ab [])])])
def bq:Fn:=run 2 3 (ab [aT (src (v 1)) (.one 2) (ab [iff (tv (b2 (vi 2 0) (v 0) (cmp .In))) (ab [fh]) (ab [])])])
def gj:Fn:=run 2 3 (ab [aT (src (v 1)) (.one 2) (ab [iff (tv (af aE [v 2])) (ab [df (ar (fv) (v 0) [v 2,v 2])]) (ab [])])])
def ek:Fn:=run 2 5 (ab [iff (tv (b2 (af di [v 1]) (c (.int 0)) (cmp .Eq))) (ab [ret (af (dm true) [v 0])]) (ab []),asg (.one 2) (ik false),aT (src (v 1)) (.one 3) (ab [oL (v 2) (v 3) (b2 (ar (bH) (v 2) [v 3,c (.int 0)]) (c (.int 1)) (aH true .Add))]),asg (.one 4) (lst false []),aT (src (v 0)) (.one 3) (ab [iff (tv (b2 (ar (bH) (v 2) [v 3,c (.int 0)]) (c (.int 0)) (cmp .Gt))) (ab [vB .Sub (v 2) (v 3) (c (.int 1))]) (ab [df (ar (aD) (v 4) [v 3])])]),aT (src (v 1)) (.one 3) (ab [iff (tv (b2 (b2 (v 2) (v 3) ix) (c (.int 0)) (cmp .Gt))) (ab [fh]) (ab [])]),ret (v 4)])
def gn:Fn:=run 3 7 (ab [asg (.one 3) (ar (bH) (v 0) [v 1,v 1]),asg (.one 4) (ar (bH) (v 0) [v 2,v 2]),iff (tv (b2 (v 3) (v 4) (cmp .Eq))) (ab [ret (c (.bl true))]) (ab []),iff (fW [dK (tv (af aE [v 3])),dK (tv (af aE [v 4]))]) (ab [ret (c (.bl false))]) (ab []),asg (.one 5) (af qc [v 3,v 4]),aT (src (af (dm true) [v 0])) (.one 6) (ab [iff (tv (b2 (b2 (v 0) (v 6) ix) (tup [v 3,v 4]) (cmp .In))) (ab [oL (v 0) (v 6) (v 5)]) (ab [])]),ret (c (.bl true))])
def oh:Fn:=run 5 13 (ab [df (af aS [v 0,v 2]),df (af aS [v 0,v 3]),asg (.one 5) (comp true (src (v 0)) [none,none] (.one 1) (tv (vi 1 2)) (vi 1 0)),df (af bq [v 5,v 2]),iff (tv (vi 1 3)) (ab [ret (c lB)]) (ab []),asg (.one 6) (af bK [vi 1 2]),asg (.one 8) (af ek [vi 1 0,comp true (src (v 2)) [none,none,some 6] (.one 1) yes (af bz [v 2,v 1])]),aT (src (v 3)) (.one 7) (ab [df (af gj [v 6,vi 7 1])]),aT (src (v 4)) (.one 9) (ab [df (af gj [v 6,v 9]),iff (dK (tv (af gn [v 6,vi 9 0,vi 9 1]))) (ab [ret (c lB)]) (ab [])]),asg (.one 10) (af (dm true) [vi 1 1]),iff (tv (b2 (af di [v 4]) (c (.int 0)) (cmp .Gt))) (ab [asg (.one 8) (comp true (src (v 8)) [none,none,some 6] (.one 1) yes (af bz [v 2,v 1])),asg (.one 10) (comp true (src (v 10)) [none,none,some 6] (.one 1) yes (af bz [v 2,v 1]))]) (ab []),asg (.one 11) (comp true (src (v 3)) [none,none,some 6] (.one 1) yes (af bz [v 2,v 1])),asg (.one 12) (b2 (v 8) (comp true (src (v 11)) [none,none,some 5] (.one 1) (tv (b2 (vi 1 0) (v 2) (cmp .NotIn))) (v 1)) (aH true .Add)),asg (.one 10) (b2 (v 10) (comp true (src (v 11)) [none,none,some 5] (.one 1) (tv (b2 (vi 1 0) (v 2) (cmp .In))) (v 1)) (aH true .Add)),ret (tup [af jW [af (jq true) [v 12]],af jW [af (kz true) [v 10]],af jW [af (jb true) [v 6]],c (.bl false)])])
def dB:Fn:=run 2 2 (ab [ret (af oh [v 0,c n8,lst true [],v 1,lst true []])])
def tS:Fn:=run 6 12 (ab [asg (.one 6) (b2 (b2 (b1 (v 2) (fld "passing")) (b1 (v 2) (fld "lasting")) (aH true .Add)) (b1 (v 3) (fld "lasting")) (aH true .Add)),asg (.one 6) (b2 (v 6) (comp true (zf (b1 (v 3) (fld "passing"))) [none,none,none,some 4] (.many [1,2]) (tv (b2 (v 1) (v 3) (cmp .NotIn))) (v 2)) (aH true .Add)),asg (.one 7) (lst false []),aT (src (af gL [v 1,v 2,v 3,v 5])) (.one 8) (ab [asg (.one 9) (tup [b1 (v 2) (fld "number"),af jW [comp true (src (b1 (v 2) (fld "names"))) [none,none,some 8] (.one 1) yes (b2 (v 2) (v 1) ix)]]),asg (.one 10) (tup [b1 (v 3) (fld "number"),af jW [comp true (src (b1 (v 3) (fld "names"))) [none,none,some 8] (.one 1) yes (b2 (v 2) (v 1) ix)]]),iff (tv (b2 (v 9) (v 10) (cmp .Eq))) (ab [cnt]) (ab []),asg (.one 11) (af dB [b1 (v 0) (fld "kinds"),comp true (src (v 6)) [none,none,some 8] (.one 1) yes (af bz [v 2,v 1])]),iff (fW [tv (af iU [v 0,v 11,v 9]),tv (af iU [v 0,v 11,v 10])]) (ab [df (ar (aD) (v 7) [tup [v 11,v 9,v 10]])]) (ab [])]),ret (v 7)])
def cH:Fn:=run 3 7 (ab [asg (.one 3) (ik false),df (af gj [v 3,b2 (b1 (v 0) (fld "names")) (b1 (v 1) (fld "names")) (aH true .Add)]),asg (.one 4) (b2 (b1 (v 0) (fld "same")) (b1 (v 1) (fld "same")) (aH true .Add)),aT (src (v 2)) (.one 5) (ab [asg (.one 4) (b2 (v 4) (af (ph true) [b2 (b2 (b1 (v 0) (fld "passing")) (vi 5 0) ix) (c (.int 1)) ix,b2 (b2 (b1 (v 1) (fld "passing")) (vi 5 1) ix) (c (.int 1)) ix]) (aH true .Add))]),aT (src (v 4)) (.one 6) (ab [iff (dK (tv (af gn [v 3,vi 6 0,vi 6 1]))) (ab [ret (c .bj)]) (ab [])]),ret (v 3)])
def cg:Fn:=run 4 10 (ab [asg (.one 4) (af og [v 0,v 2,c (.str (S "A"))]),asg (.one 5) (af og [v 0,v 3,c (.str (S "B"))]),asg (.one 6) (ik false),aT (src (af d7 [v 4,v 5])) (.one 7) (ab [iff (fW [tv (b2 (v 2) (v 3) (cmp .Eq)),tv (af d5 [v 7])]) (ab [cnt]) (ab []),asg (.one 8) (af cH [v 4,v 5,v 7]),iff (tv (b2 (v 8) (c .bj) (cmp .IsNot))) (ab [asg (.one 9) (comp true (src (v 7)) [none,none] (.one 1) yes (vi 1 1)),df (ar (bu) (v 6) [af bK [comp true (src (af tS [v 0,v 1,v 4,v 5,v 9,v 8])) [none,none] (.one 1) yes (tup [v 1,c (.bl true)])]])]) (ab [])]),ret (af (dm true) [v 6])])
def dC:Fn:=run 1 4 (ab [asg (.one 1) (af (pe true) [af di [b1 (v 0) (fld "rules")]]),asg (.one 2) (lst false []),aT (src (v 1)) (.one 3) (ab [df (ar (cA) (v 2) [comp true (src (sl true (v 1) (some (v 3)) none)) [none,none,some 3] (.one 1) yes (tup [v 2,v 1])])]),ret (v 2)])
def bU:Fn:=run 1 5 (ab [asg (.one 1) (lst false []),aT (src (b1 (v 0) (fld "looks"))) (.one 2) (ab [df (ar (cA) (v 1) [lst true [b1 (v 2) (fld "left"),b1 (v 2) (fld "right")]])]),aT (src (b1 (v 0) (fld "given"))) (.one 3) (ab [df (ar (cA) (v 1) [vi 3 1])]),aT (src (b1 (v 0) (fld "told"))) (.one 4) (ab [df (ar (cA) (v 1) [v 4])]),ret (v 1)])
def dD:Fn:=run 1 4 (ab [asg (.one 1) (ik false),aT (src (b1 (v 0) (fld "rules"))) (.one 2) (ab [aT (src (b2 (b1 (v 2) (fld "taken")) (b1 (v 2) (fld "kept")) (aH true .Add))) (.one 3) (ab [df (ar (bu) (v 1) [af bK [comp true (src (vi 3 1)) [none,none] (.one 1) yes (tup [v 1,c (.bl true)])]])]),df (ar (bu) (v 1) [af bK [comp true (src (af bU [v 2])) [none,none] (.one 1) yes (tup [v 1,c (.bl true)])]])]),ret (comp true (src (v 1)) [none,none] (.one 1) (dK (tv (af aE [v 1]))) (v 1))])
def cW:Fn:=run 1 4 (ab [asg (.one 1) (af dD [v 0]),asg (.one 2) (lst false []),aT (src (af dC [v 0])) (.one 3) (ab [df (ar (cA) (v 2) [af cg [v 0,v 1,vi 3 0,vi 3 1]])]),ret (v 2)])
def dE:Fn:=run 1 4 (ab [asg (.one 1) (ik false),aT (src (v 0)) (.one 2) (ab [aT (src (vi 2 1)) (.one 3) (ab [iff (tv (af aE [v 3])) (ab [oL (v 1) (v 3) (c (.bl true))]) (ab [])])]),ret (af (dm true) [v 1])])
def gq:Fn:=run 3 3 (ab [dM (v 0) "title" (v 1),dM (v 0) "taken" (ar (bH) (v 2) [c (.str (S "take")),lst true []]),dM (v 0) "kept" (ar (bH) (v 2) [c (.str (S "keep")),lst true []]),dM (v 0) "looks" (ar (bH) (v 2) [c (.str (S "look")),lst true []]),dM (v 0) "given" (ar (bH) (v 2) [c (.str (S "put")),lst true []]),dM (v 0) "told" (ar (bH) (v 2) [c (.str (S "tell")),lst true []]),dM (v 0) "names" (af dE [b2 (b1 (v 0) (fld "taken")) (b1 (v 0) (fld "kept")) (aH true .Add)])])
def rW:Fn:=make "Rule" gq
def bQ:Fn:=run 1 1 (ab [ret (vh [b2 (v 0) (c iR) (cmp .In),b2 (v 0) (c iS) (cmp .In),b2 (v 0) (c ji) (cmp .In)])])
def fL:Fn:=run 2 3 (ab [asg (.one 2) (v 1),lO (fW [tv (b2 (v 2) (af di [v 0]) (cmp .Lt)),tv (af bQ [b2 (v 0) (v 2) ix])]) (ab [aug .Add 2 (c (.int 1))]) lim,ret (v 2)])
def iV:Fn:=run 2 6 (ab [asg (.one 2) (lst false []),asg (.one 3) (c (.int 0)),lO (tv (b2 (v 3) (af di [v 0]) (cmp .Lt))) (ab [asg (.one 4) (af fL [v 0,v 3]),iff (tv (b2 (v 4) (v 3) (cmp .Gt))) (ab [df (ar (aD) (v 2) [sl true (v 0) (some (v 3)) (some (v 4))]),asg (.one 3) (v 4),cnt]) (ab []),asg (.one 5) (b2 (v 0) (v 3) ix),iff (tv (b2 (v 5) (v 1) (cmp .In))) (ab [df (ar (aD) (v 2) [v 5])]) (ab [iff (tv (b2 (v 5) (c (.str (S " "))) (cmp .NotEq))) (ab [fh]) (ab [])]),aug .Add 3 (c (.int 1))]) lim,ret (v 2)])
def da:Fn:=run 1 1 (ab [ret (af iV [v 0,c fH])])
def cY:Fn:=run 1 1 (ab [ret (jz [uc .LtE .LtE (c (.int 1)) (af di [v 0]) (c jj),af lP [comp true (src (v 0)) [none,none] (.one 1) yes (af bQ [v 1])]])])
def bc:Fn:=run 1 1 (ab [ret (jz [af cY [v 0],b2 (vi 0 0) (c iR) (cmp .In)])])
def eB:Fn:=run 1 1 (ab [iff (vm [tv (b2 (af di [v 0]) (c (.int 3)) (cmp .NotEq)),tv (b2 (vi 0 0) (c fJ) (cmp .NotIn))]) (ab [fh]) (ab []),iff (dK (tv (af bc [vi 0 1]))) (ab [fh]) (ab []),iff (tv (b2 (vi 0 2) (c lC) (cmp .NotIn))) (ab [fh]) (ab []),ret (tup [vi 0 1,af ue [vi 0 2],b2 (vi 0 0) (c (.str (S "lasting"))) (cmp .Eq)])])
def dR:Fn:=run 2 4 (ab [asg (.one 2) (lst false [lst false []]),aT (src (v 0)) (.one 3) (ab [iff (tv (b2 (v 3) (v 1) (cmp .Eq))) (ab [df (ar (aD) (v 2) [lst false []])]) (ab [df (ar (aD) (b2 (v 2) (b1 (c (.int 1)) neg) ix) [v 3])])]),ret (v 2)])
def ay:Fn:=run 2 2 (ab [iff (tv (b2 (v 1) (af di [v 0]) (cmp .Lt))) (ab [ret (b2 (v 0) (v 1) ix)]) (ab []),ret (c (.str (S "")))])
def cu:Fn:=run 3 3 (ab [dM (v 0) "left" (v 1),dM (v 0) "right" (v 2)])
def ym:Fn:=make "Same" cu
def qd:Fn:=make "Unlike" cu
def bh:Fn:=run 1 1 (ab [iff (vm [tv (b2 (af di [v 0]) (c (.int 3)) (cmp .NotEq)),dK (tv (af cY [vi 0 0])),dK (tv (af cY [vi 0 2]))]) (ab [fh]) (ab [])])
def eC:Fn:=run 1 1 (ab [df (af bh [v 0]),iff (tv (b2 (vi 0 1) (c (.str (S "same"))) (cmp .Eq))) (ab [ret (af ym [vi 0 0,vi 0 2])]) (ab []),iff (tv (b2 (vi 0 1) (c (.str (S "unlike"))) (cmp .Eq))) (ab [ret (af qd [vi 0 0,vi 0 2])]) (ab []),fh])
def cJ:Fn:=run 1 1 (ab [ret (comp true (src (af dR [v 0,c (.str (S ","))])) [none,none] (.one 1) yes (af eC [v 1]))])
def eE:Fn:=run 1 1 (ab [df (af bh [v 0]),iff (tv (b2 (vi 0 1) (c (.str (S "="))) (cmp .NotEq))) (ab [fh]) (ab []),ret (tup [vi 0 0,vi 0 2])])
def cK:Fn:=run 1 1 (ab [ret (comp true (src (af dR [v 0,c (.str (S ","))])) [none,none] (.one 1) yes (af eE [v 1]))])
def cL:Fn:=run 2 5 (ab [asg (.one 2) (lst false []),iff (tv (b2 (af ay [v 0,v 1]) (c (.str (S ")"))) (cmp .Eq))) (ab [ret (tup [tup [],b2 (v 1) (c (.int 1)) (aH true .Add)])]) (ab []),lO (tv (c (.bl true))) (ab [asg (.one 3) (af ay [v 0,v 1]),iff (dK (tv (af cY [v 3]))) (ab [fh]) (ab []),df (ar (aD) (v 2) [v 3]),asg (.one 4) (af ay [v 0,b2 (v 1) (c (.int 1)) (aH true .Add)]),aug .Add 1 (c (.int 2)),iff (tv (b2 (v 4) (c (.str (S ")"))) (cmp .Eq))) (ab [ret (tup [af jW [v 2],v 1])]) (ab []),iff (tv (b2 (v 4) (c (.str (S ","))) (cmp .NotEq))) (ab [fh]) (ab [])]) lim])
def gM:Fn:=run 2 4 (ab [asg (.one 2) (af ay [v 0,v 1]),iff (dK (tv (af bc [v 2]))) (ab [fh]) (ab []),iff (tv (b2 (af ay [v 0,b2 (v 1) (c (.int 1)) (aH true .Add)]) (c (.str (S "("))) (cmp .NotEq))) (ab [ret (tup [tup [v 2,tup []],b2 (v 1) (c (.int 1)) (aH true .Add)])]) (ab []),asg (.one 3) (af cL [v 0,b2 (v 1) (c (.int 2)) (aH true .Add)]),ret (tup [tup [v 2,vi 3 0],vi 3 1])])
def cM:Fn:=run 1 4 (ab [asg (.one 1) (lst false []),asg (.one 2) (c (.int 0)),lO (tv (c (.bl true))) (ab [asg (.one 3) (af gM [v 0,v 2]),df (ar (aD) (v 1) [vi 3 0]),asg (.one 2) (vi 3 1),iff (tv (b2 (v 2) (af di [v 0]) (cmp .Eq))) (ab [ret (v 1)]) (ab []),iff (tv (b2 (b2 (v 0) (v 2) ix) (c (.str (S ","))) (cmp .NotEq))) (ab [fh]) (ab []),aug .Add 2 (c (.int 1))]) lim])
def bR:Fn:=run 2 2 (ab [iff (tv (b2 (v 0) (c (.str (S "look"))) (cmp .Eq))) (ab [ret (af cJ [v 1])]) (ab []),iff (tv (b2 (v 0) (c (.str (S "tell"))) (cmp .Eq))) (ab [ret (af cK [v 1])]) (ab []),ret (af cM [v 1])])
def eF:Fn:=run 1 6 (ab [asg (.one 1) (af ay [v 0,c (.int 1)]),iff (vm [tv (b2 (af ay [v 0,c (.int 0)]) (c cq) (cmp .NotEq)),dK (tv (af bc [v 1])),tv (b2 (af ay [v 0,c (.int 2)]) (c (.str (S ":"))) (cmp .NotEq))]) (ab [fh]) (ab []),asg (.one 2) (ik false),asg (.one 3) (c (.int 0)),aT (src (af dR [sl true (v 0) (some (c (.int 3))) none,c (.str (S ";"))])) (.one 4) (ab [asg (.one 5) (af ay [v 4,c (.int 0)]),iff (tv (b2 (v 5) (sl true (c bF) (some (v 3)) none) (cmp .NotIn))) (ab [fh]) (ab []),asg (.one 3) (b2 (ar (nM) (c bF) [v 5]) (c (.int 1)) (aH true .Add)),oL (v 2) (v 5) (af bR [v 5,sl true (v 4) (some (c (.int 1))) none])]),iff (fW [tv (b2 (c (.str (S "take"))) (v 2) (cmp .NotIn)),tv (b2 (c (.str (S "keep"))) (v 2) (cmp .NotIn))]) (ab [fh]) (ab []),ret (tup [v 1,v 2])])
def cv:Fn:=run 3 6 (ab [asg (.one 3) (af da [v 2]),iff (tv (b2 (vi 3 0) (c cq) (cmp .Eq))) (ab [asg (.one 4) (af eF [v 3]),iff (tv (b2 (vi 4 0) (comp true (src (v 1)) [none,none] (.one 1) yes (b1 (v 1) (fld "title"))) (cmp .In))) (ab [fh]) (ab []),df (ar (aD) (v 1) [af rW [vi 4 0,vi 4 1]])]) (ab [asg (.one 5) (af eB [v 3]),iff (tv (b2 (vi 5 0) (comp true (src (v 0)) [none,none] (.one 1) yes (vi 1 0)) (cmp .In))) (ab [fh]) (ab []),df (ar (aD) (v 0) [v 5])])])
def gN:Fn:=run 1 2 (ab [asg (.one 1) (ar (jO) (v 0) [c (.str (S " "))]),ret (jz [b2 (v 1) (c (.str (S ""))) (cmp .NotEq),b2 (vi 1 0) (c (.str (S "#"))) (cmp .NotEq)])])
def dF:Fn:=run 1 1 (ab [ret (comp true (src (ar (jN true) (v 0) [c (.str (S "\n"))])) [none,none] (.one 1) (tv (af gN [v 1])) (v 1))])
def gu:Fn:=run 3 3 (ab [dM (v 0) "kinds" (v 1),dM (v 0) "rules" (v 2)])
def rY:Fn:=make "Book" gu
def cN:Fn:=run 2 3 (ab [iff (dK (tv (mZ "calls" (fun y=>([("Rule",aR)]:List (Str × Fn)).lookup y) (v 1) []))) (ab [ret (c .bj)]) (ab []),aT (src (b1 (v 1) (fld "given"))) (.one 2) (ab [iff (tv (b2 (vi 2 0) (v 0) (cmp .NotIn))) (ab [fh]) (ab [])])])
def de:Fn:=run 1 2 (ab [aT (src (af bU [v 0])) (.one 1) (ab [iff (fW [tv (af aE [v 1]),tv (b2 (v 1) (b1 (v 0) (fld "names")) (cmp .NotIn))]) (ab [fh]) (ab [])])])
def dG:Fn:=run 2 4 (ab [asg (.one 2) (comp true (src (v 0)) [none,none] (.one 1) (tv (vi 1 2)) (vi 1 0)),aT (src (v 1)) (.one 3) (ab [df (af aS [v 0,b2 (b2 (b1 (v 3) (fld "taken")) (b1 (v 3) (fld "kept")) (aH true .Add)) (b1 (v 3) (fld "given")) (aH true .Add)]),df (af bq [v 2,b1 (v 3) (fld "taken")]),df (af cN [v 2,v 3]),df (af de [v 3])]),ret (af rY [v 0,v 1])])
def cw:Fn:=run 1 4 (ab [asg (.one 1) (lst false []),asg (.one 2) (lst false []),aT (src (af dF [v 0])) (.one 3) (ab [df (af cv [v 1,v 2,v 3])]),ret (af dG [v 1,v 2])])
def qe:Fn:=run 1 13 (ab [asg (.one 1) (af aI [v 0,c (.int 0)]),asg (.one 2) (lst true [af aN [v 1,c (.int 0),c (.str (S "k"))],af aN [v 1,c (.int 1),c (.str (S "k"))]]),asg (.one 3) (af aN [v 1,c (.int 2),c (.str (S "k"))]),asg (.one 4) (lst false [tup [vi 2 0,c (.int 0),c (.bl false)],tup [vi 2 1,c (.int 0),c (.bl false)]]),df (ar (kC) (v 4) [b2 (af aI [v 0,c (.int 1)]) (c (.int 3)) (aH true .Mod),tup [v 3,c (.int 0),c (.bl true)]]),asg (.one 5) (comp true (ud (c (.int 0)) (c (.int 2))) [none,none,some 3,some 2,some 0] (.one 1) yes (af ba [v 4,b2 (c (.int 2)) (v 1) (aH true .Add),v 3,v 2])),asg (.one 6) (af cW [af cw [af bx [v 4,v 5,af aI [v 0,c (.int 4)]]]]),asg (.one 8) (comp true (src (v 5)) [none,none] (.one 1) yes (b2 (vi 1 0) (vi 1 1) (aH true .Add))),asg (.one 9) (jz [b2 (vi 8 0) (vi 8 1) (cmp .Eq),vh [b2 (b2 (vi 5 0) (c (.int 0)) ix) (lst true []) (cmp .NotEq),b2 (b2 (vi 5 1) (c (.int 0)) ix) (lst true []) (cmp .NotEq)]]),aT (src (v 5)) (.one 7) (ab [iff (fW [tv (b2 (vi 7 0) (lst true []) (cmp .Eq)),tv (b2 (vi 7 3) (lst true []) (cmp .Eq))]) (ab [asg (.one 9) (c (.bl false))]) (ab [])]),asg (.one 10) (tup [tup [tup [b2 (vi 8 0) (c (.int 0)) ix],tup [],tup [],c (.bl false)],tup [c (.int 0),tup []],tup [c (.int 1),tup []]]),asg (.one 11) (lst true [v 10,tup [vi 10 0,vi 10 2,vi 10 1]]),iff (dK (tv (af Cu [v 6,c (.cl (.type "list"))]))) (ab [ret (c (.bl false))]) (ab []),aT (src (v 6)) (.one 12) (ab [iff (fW [dK (tv (af fK [v 12,v 5])),dK (fW [tv (v 9),tv (b2 (v 12) (v 11) (cmp .In))])]) (ab [ret (c (.bl false))]) (ab [])]),ret (vh [oJ (v 9),b2 (vi 11 0) (v 6) (cmp .In),b2 (vi 11 1) (v 6) (cmp .In)])])
theorem rZ (ch:Nat) (L:aa):bQ [.str [ch]] L=.ok (.bl (fb ch)) L:=by
 unfold bQ iR iS ji fb;show _=R.ok (T.bl (decide (ch∈S "abcdefghijklmnopqrstuvwxyz") || (decide (ch∈S "ABCDEFGHIJKLMNOPQRSTUVWXYZ") || decide (ch∈S "0123456789")))) L
 simp_arith;cases decide (ch∈S "abcdefghijklmnopqrstuvwxyz") <;> cases decide (ch∈S "ABCDEFGHIJKLMNOPQRSTUVWXYZ") <;> simp [xS]
theorem lD (s:Cs) (hs:s.length<=100000) (L:aa):cY [.str s] L=.ok (.bl (aw s)) L:=by
 have hb:lP [.lst (s.map fun ch=>.bl (fb ch))] L=.ok (.bl (s.all fb)) L:=by
  have:=mapM_map (f:=IH) (g:=fun ch=>T.bl (fb ch)) (h:=fb) (fun _=>rfl) s;simp [lP,FP,vw,this,lift,Xy,Vb]
 unfold cY jj aw;by_cases h1:1<=s.length
 ·by_cases h2:s.length<=12
  ·simp_arith [show(1:Int)<=s.length by omega,show(s.length:Int)<=12 by omega,h1,h2,decide_true]
   rw [cV rfl s (fun ch=>.str [ch]) (fun ch=>.bl (fb ch)) (by exact rfl) (by exact bE) (by exact Ra hs (by decide)) (by exact fun b _=>by simp_arith [rZ])];simp_arith [hb]
  ·simp_arith [show(1:Int)<=s.length by omega,show ¬ (s.length:Int)<=12 by omega,h1,h2,decide_true,decide_false]
 ·simp_arith [show ¬ (1:Int)<=s.length by omega,h1,decide_false]
theorem yn {s:Cs} (h:1<=s.length) (L:aa):ix (.str s) (.int 0) L=.ok (.str [s.headD 0]) L:=by
 cases s with
 | nil=>cases h
 | cons a r=>simp [ix,vw,place,lift]
theorem jT (s:Cs) (hs:s.length<=100000) (L:aa):bc [.str s] L=.ok (.bl (av s)) L:=by
 unfold bc iR av;simp_arith [lD s hs];cases h:aw s with
 | false=>simp_arith
 | true=>simp_arith [yn (aQ h).1];rfl
theorem tT (s:Cs) (hs:1<=s.length) (L:aa):aE [.str s] L=.ok (.bl (great s)) L:=by
 unfold aE iS great;simp_arith [yn hs];rfl
theorem dH (ps:List Cs) (n:Nat) (L:aa):ay [.lst (ps.map .str),.int n] L=.ok (.str (ps.getD n [])) L:=by
 unfold ay;simp_arith;by_cases h:n<ps.length
 ·have e:(ps.map T.str)[n]?=some (.str (ps.getD n [])):=by simp [Gd9,h]
  simp only [show(n:Int)<ps.length by omega,decide_true];simp_arith [eK e]
 ·simp only [show ¬ (n:Int)<ps.length by omega,decide_false];simp_arith;simp [Gd9,h]
theorem fM (c:Nat) (r:Cs):cZ (c::r)=if fb c=true then cZ r+1 else 0:=by
 unfold cZ;rw [Xl];split <;> simp
theorem HZ (p:Cs) (s:Nat) (L:aa) (hs:s<=p.length) (hl:p.length<=100000):fL [.str p,.int s] L=.ok (.int ((s+cZ (p.drop s):Nat):Int)) L:=by
 unfold fL;simp_arith;generalize ho:lO _ _ _ _ _=o;have h:=tR ho (fun n φ L'=>L'=L/\∃e:Nat,n=p.length - e/\e<=p.length/\e+cZ (p.drop e)=s+cZ (p.drop s)/\φ=[some (.str p),some (.int s),some (.int e)])
  (fun o=>o=.nx [some (.str p),some (.int s),some (.int ((s+cZ (p.drop s):Nat):Int))] L) (n:=p.length - s) (by unfold lim;omega) ⟨rfl,s,rfl,hs,rfl,rfl⟩ fun _ _ eJ eP n φ L' h=>by
   obtain⟨rfl,e,rfl,he,e1,rfl⟩:=h;by_cases bL:e<p.length
   ·have hd:p.drop e=p[e]::p.drop (e+1):=Su bL
    rw [hd,fM] at e1;have hx:ix (.str p) (.int e) L'=.ok (.str [p[e]]) L':=by rw [ll (by omega) (by omega)];simp [bL]
    cases hg:fb p[e] with
    | true =>
     rw [hg,if_pos rfl] at e1;refine .inr ⟨?_,?_⟩
     ·simp_arith [eJ,eP,hx,rZ,show(e:Int)<p.length by omega,decide_true,hg]
     ·simp_arith [eJ,eP];exact⟨p.length - (e+1),by omega,trivial,e+1,rfl,by omega,by omega,by simp⟩
    | false =>
     rw [hg,if_neg (by simp)] at e1;refine .inl ⟨?_,?_⟩
     ·simp_arith [eJ,eP,hx,rZ,show(e:Int)<p.length by omega,decide_true,hg]
     ·rw [eP,<- e1];rfl
   ·refine .inl ⟨?_,?_⟩
    ·simp_arith [eJ,eP,show ¬ (e:Int)<p.length by omega,decide_false]
    ·rw [U5 (by omega)] at e1;rw [eP,<- e1];rfl
 subst h;simp_arith
theorem cO {α β:Type} (f:α->β) (l:List α) (x:α):l.map f++[f x]=(l++[x]).map f:=by simp
theorem iH {p:Cs} {a n:Nat} (h:a+n<=p.length) (L:aa):mr true (.str p) (some (a:Int)) (some ((a+n:Nat):Int)) L=.ok (.str ((p.drop a).take n)) L:=by
 unfold mr vw;simp only [];rw [aP ⟨by omega,by omega,by omega⟩,show((a:Int)).toNat=a by omega,show(((a+n:Nat):Int) - (a:Int)).toNat=n by omega]
theorem yo {p:Cs} {ts:List Cs} (L:aa) (hp:p.length<=20000) (hk:Tk EW p ts):iV [.str p,.str (S "(),:;=")] L=.ok (.lst (ts.map .str)) L:=by
 have JW:=hk.len;unfold iV;simp_arith;generalize ho:lO _ _ _ _ _=o;have h:=tR ho (fun n φ L'=>∃(e:Nat) (done rest:List Cs) (o4 o5:Option T),n=p.length - e/\e<=p.length/\Tk EW (p.drop e) rest/\done++rest=ts/\φ=[some (.str p),some (.str (S "(),:;=")),some (.ref L.length),some (.int e),o4,o5]/\L'=.lst (done.map .str)::L)
  (fun o=>∃o3 o4 o5,o=.nx [some (.str p),some (.str (S "(),:;=")),some (.ref L.length),o3,o4,o5] (.lst (ts.map .str)::L)) (n:=p.length) (by unfold lim;omega) ⟨0,[],ts,none,none,rfl,Rf _,hk,rfl,rfl,rfl⟩ fun _ _ eJ eP n φ L' h=>by
   obtain⟨e,done,rest,o4,o5,rfl,he,ht,rfl,rfl,rfl⟩:=h;have hlen:done.length<lim:=by
    rw [QT] at JW;unfold lim;omega
   have ee:=HZ p e (.lst (done.map .str)::L) he (by omega);have sg:∀{c r},p.drop e=c::r->e<p.length/\p.drop (e+1)=r/\ix (.str p) (.int e) (.lst (done.map .str)::L)=.ok (.str [c]) (.lst (done.map .str)::L):=fun {c r} hd=>by
    have bL:e<p.length:=by have:=congrArg Th hd;simp at this;omega
    have h2:=(Su bL).symm.trans hd;refine⟨bL,(TU h2).2,?_⟩;rw [ll (by omega) (by omega)];simp [bL,(TU h2).1]
   generalize hd:p.drop e=d at ht ee;cases ht with
   | nil =>
    have:=congrArg Th hd;rw [Ru] at this;refine .inl ⟨by simp_arith [eJ,eP,show ¬ (e:Int)<p.length by simp at this;omega,decide_false],?_⟩;rw [eP,RP];exact⟨_,_,_,rfl⟩
   | sp t =>
    obtain⟨bL,hr,hx⟩:=sg hd;rw [fM,Bk.pX] at ee;refine .inr ⟨by simp_arith [eJ,eP,show(e:Int)<p.length by omega,decide_true],?_⟩;simp_arith [eJ,eP,ee,QW,if_false,VM,Xp,decide_false,hx,show(32∈S "(),:;=")=False from eq_false (by decide)];exact⟨p.length - (e+1),by omega,e+1,done,rest,_,_,rfl,bL,hr ▸ t,rfl,rfl,rfl⟩
   | @mk c _ q hc t =>
    obtain⟨bL,hr,hx⟩:=sg hd;rw [fM,show fb c=false from(by decide +kernel:∀c∈EW,fb c=false) c hc] at ee;refine .inr ⟨by simp_arith [eJ,eP,show(e:Int)<p.length by omega,decide_true],?_⟩;simp_arith [eJ,eP,ee,QW,if_false,VM,Xp,decide_false,hx,show(c∈S "(),:;=")=True from eq_true hc,decide_true,aP hlen,cO];exact⟨p.length - (e+1),by omega,e+1,done++[[c]],q,_,_,rfl,bL,hr ▸ t,by simp,rfl,rfl⟩
   | @name nm r q hn hs t =>
    have h1:=aQ hn;have hl:=congrArg Th hd
    rw [Ru,QT] at hl;have en:cZ (nm++r)=nm.length:=by
     unfold cZ;rw [List.takeWhile_append_of_pos (Bk.B4 hn)];cases r with
     | nil=>simp
     | cons c r=>rw [Xl,hs c rfl];simp
    rw [en] at ee;refine .inr ⟨by simp_arith [eJ,eP,show(e:Int)<p.length by omega,decide_true],?_⟩;simp_arith [eJ,eP,ee,show((e:Nat):Int)<((e+nm.length:Nat):Int) by omega,decide_true,iH (p:=p) (a:=e) (n:=nm.length) (by omega),hd,List.take_left,aP hlen,cO];exact⟨p.length - (e+nm.length),by omega,e+nm.length,done++[nm],q,_,_,rfl,by omega,by rw [<- Vi,hd,Vh];exact t,by simp,rfl,rfl⟩
 obtain⟨o3,o4,o5,rfl⟩:=h;simp_arith;exact cf (aW fun _ _=>rfl)
theorem gD {ps:List Cs} {q i:Nat} {d:List Cs} (h:ps.drop q=d):ps.getD (q+i) []=d.getD i []:=by
 rw [<- h,Gd9,Gd9,List.getElem?_drop]
theorem tU:∀as:List Cs,as.length<=(between as).length
 | []=>Q3 _
 | [_]=>SO _
 | _::b::t=>Wt (Tf (tU (b::t)))
theorem E9 (ps as:List Cs) (p:Nat) (r:List Cs) (L:aa) (hl:ps.length<=20000) (h0:as≠[]) (hn:∀a∈as,aw a=true) (hd:ps.drop p=between as++r) :
  cL [.lst (ps.map .str),.int p] L=.ok (.tup [.tup (as.map .str),.int ((p+(between as).length:Nat):Int)]) L:=by
 have P2:(ps.getD p [] == [41])=false:=by
  obtain⟨a,t,rfl⟩:=Uu h0;rw [show ps.getD p []=a from(gD (i:=0) hd).trans (by cases t <;> rfl)];exact beq_eq_false_iff_ne.mpr fun e=>absurd (hn a QR) (by rw [e];decide +kernel)
 have ha:as.length<lim:=by
  have z:=congrArg Th hd;have:=tU as
  rw [Ru,QT] at z;unfold lim;omega
 unfold cL;simp_arith [dH,P2];generalize ho:lO _ _ _ _ _=o;have h:=tR ho (fun m φ L'=>∃(q:Nat) (done as':List Cs) (o3 o4:Option T),m=as'.length/\as'≠[]/\ps.drop q=between as'++r/\done++as'=as/\q+(between as').length=p+(between as).length/\φ=[some (.lst (ps.map .str)),some (.int q),some (.ref L.length),o3,o4]/\L'=.lst (done.map .str)::L)
  (fun o=>o=.rt (.tup [.tup (as.map .str),.int ((p+(between as).length:Nat):Int)]) (.lst (as.map .str)::L)) (n:=as.length) ha ⟨p,[],as,none,none,rfl,h0,hd,rfl,rfl,rfl,rfl⟩ fun _ _ eJ eP m φ L' h=>by
   obtain⟨q,done,as',o3,o4,rfl,h0,hd,e1,e2,rfl,rfl⟩:=h;obtain⟨nm,t,rfl⟩:=Uu h0;have hm:=hn nm (by rw [<- e1];simp)
   have y7:=dH ps q (.lst (done.map .str)::L);have yp:=dH ps (q+1) (.lst ((done++[nm]).map .str)::L)
   rw [show ps.getD q []=nm from(gD (i:=0) hd).trans (by cases t <;> rfl)] at y7;have hb:done.length<lim:=by
    rw [<- e1,QT] at ha;omega
   refine .inr ⟨rfl,?_⟩;cases t with
   | nil =>
    rw [show ps.getD (q+1) []=[41] from gD (i:=1) hd] at yp;simp_arith [eJ,eP,y7,lD nm (Ra (aQ hm).2 (by decide)),hm,aP hb,cO,yp];rw [e1,<- e2];rfl
   | cons b t =>
    rw [show ps.getD (q+1) []=[44] from gD (i:=1) hd] at yp;simp_arith [eJ,eP,y7,lD nm (Ra (aQ hm).2 (by decide)),hm,aP hb,cO,yp];exact⟨(b::t).length,by simp,q+2,done++[nm],b::t,_,_,rfl,Ts _ _,by rw [<- Vi,hd];rfl,by simpa using e1,by rw [<- e2];show q+2+_=q+(_+2);omega,rfl,rfl⟩
 subst h;simp_arith;exact dZ (by simp [lt,fj,lx])
theorem mV (ps:List Cs) (f:Fc) (p:Nat) (r:List Cs) (L:aa) (hl:ps.length<=20000) (hf:FG f) (hr:r.getD 0 []≠[40]) (hd:ps.drop p=cD f++r) :
  gM [.lst (ps.map .str),.int p] L=.ok (.tup [fT f,.int ((p+(cD f).length:Nat):Int)]) L:=by
 have y7:=dH ps p L;have yp:=dH ps (p+1) L
 have hk:=aQ (Bk.aV hf.k);unfold cD at hd;unfold gM cD;by_cases h0:f.as=[]
 ·rw [if_pos h0] at hd ⊢
  rw [show ps.getD p []=f.k from gD (i:=0) hd] at y7;rw [show ps.getD (p+1) []=r.getD 0 [] from gD (i:=1) hd] at yp;simp_arith [y7,jT f.k (Ra hk.2 (by decide)),hf.k,yp,beq_eq_false_iff_ne.mpr hr,show fT f=.tup [.str f.k,.tup []] by unfold fT;rw [h0];rfl];exact fin_same (by simp [lt,fj])
 ·rw [if_neg h0] at hd ⊢
  rw [show ps.getD p []=f.k from gD (i:=0) hd] at y7;rw [show ps.getD (p+1) []=[40] from gD (i:=1) hd] at yp;simp_arith [y7,jT f.k (Ra hk.2 (by decide)),hf.k,yp,E9 ps f.as (p+2) r L hl h0 hf.as (by rw [<- Vi,hd];rfl)];rw [show p+2+(between f.as).length=p+(f.k::[40]::between f.as).length by simp only [QX];omega];exact fin_same (by simp [fT,lt,fj,lx])
theorem Ba {α:Type} {m:Cs} (l:List α) (g:α->List Cs) (hg:∀x,g x≠[]):l.length<=(glue m (l.map g)).length:=by
 induction l with
 | nil=>exact Q3 _
 | cons a t ih =>
  have:=List.length_pos_iff.mpr (hg a);cases t with
  | nil=>exact this
  | cons b t =>
   show _<=(g a++m::glue m ((b::t).map g)).length;rw [QT,QX,QX (as:=glue _ _)];omega
theorem H3 (fs:List Fc) (L:aa) (h0:fs≠[]) (hl:(glue [44] (fs.map cD)).length<=20000) (hf:∀f∈fs,FG f):cM [.lst ((glue [44] (fs.map cD)).map .str)] L=.ok (.lst (fs.map fT)) L:=by
 generalize Af:glue [44] (fs.map cD)=ps at hl;have hn:fs.length<lim:=by
  have:=Ba (m:=[44]) fs cD fun f=>by unfold cD;split <;> exact Ts _ _
  rw [Af] at this;unfold lim;omega
 unfold cM;simp_arith;generalize ho:lO _ _ _ _ _=o;have h:=tR ho (fun m φ L'=>∃(q:Nat) (done rest:List Fc) (o3:Option T),m=rest.length/\rest≠[]/\ps.drop q=glue [44] (rest.map cD)/\done++rest=fs/\φ=[some (.lst (ps.map .str)),some (.ref L.length),some (.int q),o3]/\L'=.lst (done.map fT)::L)
  (fun o=>o=.rt (.ref L.length) (.lst (fs.map fT)::L)) (n:=fs.length) hn ⟨0,[],fs,none,rfl,h0,Af.symm,rfl,rfl,rfl⟩ fun _ _ eJ eP m φ L' h=>by
   obtain⟨q,done,rest,o3,rfl,h0,hd,e1,rfl,rfl⟩:=h;obtain⟨f,t,rfl⟩:=Uu h0;have hF:=hf f (by rw [<- e1];simp)
   have hb:done.length<lim:=by rw [<- e1,QT] at hn;omega
   have hq:=congrArg Th hd;rw [Ru] at hq;have uG:1<=(cD f).length:=by unfold cD;split <;> simp
   refine .inr ⟨rfl,?_⟩;cases t with
   | nil =>
    have hq:ps.length - q=(cD f).length:=hq;simp_arith [eJ,eP,mV ps f q [] _ hl hF (by simp) (by rw [hd,RP];rfl),aP hb,cO,show(((q+(cD f).length:Nat):Int) == (ps.length:Int))=true from by simp;omega,e1]
   | cons g t =>
    have hq:ps.length - q=(cD f++[44]::glue [44] ((g::t).map cD)).length:=hq;have hd:ps.drop q=cD f++[44]::glue [44] ((g::t).map cD):=hd
    rw [QT,QX] at hq;have hr:ps.drop (q+(cD f).length)=[44]::glue [44] ((g::t).map cD):=by rw [<- Vi,hd,Vh]
    have hg:(ps.map T.str)[q+(cD f).length]?=some (.str [44]):=by
     rw [Rd,<- VM (q+(cD f).length),<- List.getElem?_drop,hr];rfl
    simp_arith [eJ,eP,mV ps f q _ _ hl hF (by simp) hd,aP hb,cO,show(((q+(cD f).length:Nat):Int) == (ps.length:Int))=false from by simp;omega,eK hg];exact⟨(g::t).length,by simp,q+(cD f).length+1,done++[f],g::t,_,rfl,Ts _ _,by rw [<- Vi,hr];rfl,by simpa using e1,rfl,rfl⟩
 subst h;simp_arith;exact cf (aW dY)
noncomputable def aZ (m:Cs):List Cs->List (List Cs)->List (List Cs)
 | [],rows=>rows
 | p::r,rows=>aZ m r (if p=m then rows++[[]] else rows.dropLast++[rows.getLastD []++[p]])
theorem gv {m:Cs}:∀(q rest:List Cs) (done:List (List Cs)) (cur:List Cs),m∉q->aZ m (q++rest) (done++[cur])=aZ m rest (done++[cur++q])
 | [],rest,done,cur,_=>by rw [RQ,RP]
 | p::q,rest,done,cur,h=>by
  have hp:p≠m:=fun e=>h (by rw [e];exact QR)
  have hq:m∉q:=fun z=>h (QV _ z)
  show aZ m (q++rest) (if p=m then _ else (done++[cur]).dropLast++[(done++[cur]).getLastD []++[p]])=_;rw [if_neg hp,Xa,show(done++[cur]).getLastD []=cur by simp,gv q rest done (cur++[p]) hq,Rn,Uj]
theorem iW {m:Cs}:∀(qs:List (List Cs)) (done:List (List Cs)),qs≠[]->(∀q∈qs,m∉q)->aZ m (glue m qs) (done++[[]])=done++qs
 | [],_,h,_=>absurd rfl h
 | [q],done,_,h=>by
  have e:=gv q [] done [] (h q (by simp));rw [RP] at e;show aZ m q _=_
  rw [e];rfl
 | q::q2::r,done,_,h=>by
  have e:=gv q (m::glue m (q2::r)) done [] (h q (by simp));show aZ m (q++m::glue m (q2::r)) _=_
  rw [e];show aZ m (glue m (q2::r)) (if m=m then (done++[[]++q])++[[]] else _)=_
  rw [if_pos rfl,iW (q2::r) (done++[[]++q]) (by simp) fun x hx=>h x (QV _ hx),RQ,Rn,Uj]
noncomputable def aX (r:List Cs):T:=.lst (r.map .str)
theorem Fb (n:Nat) (r:List Cs):lt n (aX r)=true:=by simp [aX,lt,lx]
noncomputable def bW (n k:Nat):List T:=.ref n::(RV k).map fun i=>.ref (n+2+i)
noncomputable def cP (L:aa) (r0:List Cs) (rest:List (List Cs)):aa:=(rest.map aX).reverse++(.lst (bW L.length rest.length)::aX r0::L)
theorem om {α:Type} {L:List α}:∀(A:List α) {n:Nat},n<L.length->at_ (A++L) n=at_ L n
 | [],n,h=>rfl
 | a::A,n,h=>by rw [Tt,at_,if_neg (by simp;omega),om A h]
theorem tV {α:Type} {L:List α} {d:α}:∀(A:List α) {n:Nat},n<L.length->put (A++L) n d=A++put L n d
 | [],n,h=>rfl
 | a::A,n,h=>by rw [Tt,put,if_neg (by simp;omega),tV A h];rfl
section
variable {L:aa} {r0:List Cs} {rest:List (List Cs)}
theorem lE:(cP L r0 rest).length=L.length+2+rest.length:=by unfold cP;simp;omega
theorem mW {n k:Nat}:(bW n k).length=k+1:=by simp [bW]
theorem jU:at_ (cP L r0 rest) (L.length+1)=some (.lst (bW L.length rest.length)):=by
 unfold cP;rw [om _ (by simp)];exact rS
theorem r6 {n k:Nat}:bW n k++[.ref (n+2+k)]=bW n (k+1):=by simp [bW,List.range_succ]
theorem uW:put (.lst []::cP L r0 rest) (L.length+1) (.lst (bW L.length rest.length++[.ref (cP L r0 rest).length]))=cP L r0 (rest++[[]]):=by
 rw [lE,r6];show put ((T.lst []::(rest.map aX).reverse)++(.lst (bW L.length rest.length)::aX r0::L)) (L.length+1) _=_
 rw [tV _ (by simp),HG];simp [cP,aX]
theorem r7 {n:Nat}:place (n+1) (-1)=some n:=by
 unfold place;rw [if_neg (by decide),if_pos (by omega)];congr 1;omega
theorem uX (q:Cs):∃n last H4 mX,ix (.ref (L.length+1)) (.int (-1)) (cP L r0 rest)=.ok (.ref n) (cP L r0 rest)/\at_ (cP L r0 rest) n=some (aX last)/\put (cP L r0 rest) n (aX (last++[q]))=cP L H4 mX /\
  (∀mk qs,q≠mk->aZ mk (q::qs) (r0::rest)=aZ mk qs (H4::mX))/\(H4::mX).flatten.length=(r0::rest).flatten.length+1/\last.length<=(r0::rest).flatten.length/\mX.length=rest.length:=by
 have Nm:∀n,(bW L.length rest.length)[rest.length]?=some (.ref n)->ix (.ref (L.length+1)) (.int (-1)) (cP L r0 rest)=.ok (.ref n) (cP L r0 rest):=fun n h=>by
  simp only [ix,vw,jU,Tp,mW,r7,Tr,h,lift]
 rcases List.eq_nil_or_concat rest with rfl|⟨pre,last,e⟩
 ·refine⟨L.length,r0,r0++[q],[],Nm _ rfl,?_,?_,fun mk qs h=>?_,by simp,by simp,rfl⟩
  ·exact n7
  ·show put (T.lst (bW L.length 0)::aX r0::L) L.length _=_
   rw [A8];rfl
  ·show aZ mk qs (if q=mk then _ else _)=_
   rw [if_neg h];rfl
 ·rw [List.concat_eq_append] at e
  subst e;have ec:∀z:List Cs,cP L r0 (pre++[z])=aX z::((pre.map aX).reverse++(.lst (bW L.length (pre.length+1))::aX r0::L)):=fun z=>by simp [cP]
  have el:((pre.map aX).reverse++(T.lst (bW L.length (pre.length+1))::aX r0::L)).length=L.length+2+pre.length:=by simp;omega
  refine⟨L.length+2+pre.length,last,r0,pre++[last++[q]],Nm _ ?_,?_,?_,fun mk qs h=>?_,by simp;omega,by simp;omega,by simp⟩
  ·simp [bW]
  ·rw [ec,<- el];exact dy
  ·rw [ec,ec,<- el];exact rU
  ·show aZ mk qs (if q=mk then _ else _)=_
   rw [if_neg h,show r0::(pre++[last])=(r0::pre)++[last] from rfl,Xa,List.getLastD_concat];rfl
end
theorem qf {L L':aa}:∀(ns:List Nat) (rows:List (List Cs)),ns.length=rows.length->(∀i (h:i<ns.length) (h':i<rows.length),L.length<=ns[i]/\at_ L' ns[i]=some (aX rows[i]))->(ns.map T.ref).mapM (bZ L.length L' 7)=some (rows.map aX)
 | [],[],_,_=>rfl
 | n::ns,r::rows,hl,h=>by
  obtain⟨h1,h2⟩:=h 0 (by simp) (by simp);have h1:L.length<=n:=h1
  have h2:at_ L' n=some (aX r):=h2
  have e:bZ L.length L' 7 (.ref n)=some (aX r):=by
   unfold bZ;rw [if_neg (by rw [lt];simp;omega)];simp only [h2];unfold bZ;rw [if_pos (Fb _ _)]
  rw [Q4,Tw,e,qf ns rows (by simpa using hl) fun i a b=>h (i+1) (by simpa using a) (by simpa using b)];rfl
theorem yq {L:aa} {r0:List Cs} {rest:List (List Cs)}:fin L (.ref (L.length+1)) (cP L r0 rest)=.ok (.lst ((r0::rest).map aX)) L:=by
 have hd:(cP L r0 rest).drop ((cP L r0 rest).length - L.length)=L:=by
  rw [lE,show cP L r0 rest=((rest.map aX).reverse++[.lst (bW L.length rest.length),aX r0])++L by simp [cP],List.drop_left' (by simp;omega)]
 unfold fin;rw [hd,if_pos (gf L)];unfold bZ;rw [if_neg (by rw [lt];simp)];simp only [jU];unfold bZ;rw [if_neg (by rw [lt,bW,fj,lt];simp)];have e:bW L.length rest.length=(L.length::(RV rest.length).map fun i=>L.length+2+i).map T.ref:=by simp [bW]
 rw [e];simp only [];rw [qf _ (r0::rest) (by simp)]
 ·rfl
 ·intro i h h'
  cases i with
  | zero =>
   refine⟨Q3 _,?_⟩;show at_ (cP L r0 rest) L.length=some (aX r0)
   unfold cP;rw [om _ (by simp only [QX];omega)];exact n7
  | succ i =>
   simp only [List.getElem_cons_succ,Tq,List.getElem_range];refine⟨by omega,?_⟩;have hi:i<rest.length:=by simpa using h'
   have e:cP L r0 rest=((rest.drop (i+1)).map aX).reverse++(aX rest[i]::(((rest.take i).map aX).reverse++(.lst (bW L.length rest.length)::aX r0::L))):=by
    have e0:rest.map aX=(rest.take i).map aX++(aX rest[i]::(rest.drop (i+1)).map aX):=by rw [<- Q4,<- Su hi,<- Rg,Ug]
    unfold cP;rw [e0,List.reverse_append,List.reverse_cons,Rn,Rn];rfl
   rw [e,om _ (by simp;omega),show L.length+2+i=(((rest.take i).map aX).reverse++(T.lst (bW L.length rest.length)::aX r0::L)).length by simp;omega];exact dy
theorem yr (ps:List Cs) (mk:Cs) (L:aa) (hl:ps.length<=20000):dR [.lst (ps.map .str),.str mk] L=.ok (.lst ((aZ mk ps [[]]).map aX)) L:=by
 unfold dR;simp_arith;generalize ho:forL _ _ _ _ _ _=o;have h:=mU ho ps T.str (fun qs φ L'=>∃r0 rest o3,aZ mk qs (r0::rest)=aZ mk ps [[]]/\(r0::rest).flatten.length+qs.length<=20000/\rest.length+qs.length<=20000/\φ=[some (.lst (ps.map .str)),some (.str mk),some (.ref (L.length+1)),o3]/\L'=cP L r0 rest)
  (fun o=>∃r0 rest o3,r0::rest=aZ mk ps [[]]/\o=.nx [some (.lst (ps.map .str)),some (.str mk),some (.ref (L.length+1)),o3] (cP L r0 rest)) rfl ⟨[],[],none,rfl,by simpa using hl,by simpa using hl,rfl,rfl⟩ (fun _ _ eJ eP q qs φ L' h=>by
   obtain⟨r0,rest,o3,e1,e2,e3,rfl,rfl⟩:=h;refine⟨sv,_,rfl,?_⟩;simp only [QX] at e2 e3;by_cases hq:q=mk
   ·subst hq
    simp_arith [eJ,eP];have ha:at_ (.lst []::cP L r0 rest) (L.length+1)=some (.lst (bW L.length rest.length)):=by rw [at_,if_neg (by rw [lE];omega)];exact jU
    simp_arith [eJ,eP,jU,ha,aP (show(bW L.length rest.length).length<lim by rw [mW];unfold lim;omega),uW];refine⟨r0,rest++[[]],_,?_,by simp at e2 ⊢;omega,by simp;omega,rfl,rfl⟩;rw [<- e1];show _=aZ q qs (if q=q then _ else _)
    rw [if_pos rfl];rfl
   ·obtain⟨n,last,H4,mX,i1,i2,i3,i4,i5,i6,i7⟩:=uX (L:=L) (r0:=r0) (rest:=rest) q
    simp_arith [eJ,eP,show(q == mk)=false from beq_eq_false_iff_ne.mpr hq,i1,i2,aX,aP (show last.length<lim by unfold lim;omega),cO];refine⟨H4,mX,_,by rw [<- i4 mk qs hq];exact e1,by omega,by omega,rfl,i3⟩)
  fun φ L' h=>by
   obtain⟨r0,rest,o3,e1,e2,e3,rfl,rfl⟩:=h;exact⟨sv,r0,rest,o3,e1,rfl⟩
 obtain⟨r0,rest,o3,e,rfl⟩:=h;simp_arith;rw [yq,e]
theorem yt {L Ln L':aa} {t:T} (hl:L'.length=L.length) (ho:old L L') (ht:lt L.length t=true):fin L t (Ln++L')=.ok t L':=by
 have e:(Ln++L').drop ((Ln++L').length - L.length)=L':=by rw [QT,hl,VP,Vh]
 unfold fin;rw [e,if_pos ho];unfold bZ;rw [if_pos ht];rfl
theorem Cf {L:aa} {c c':T} (h:lt (L.length+1) c'=true):old (c::L) (c'::L):=fun n d e=>by
 unfold at_ at e ⊢
 split at e
 ·cases e;exact .inr h
 ·rename_i z;rw [if_neg z];exact .inl e
theorem H5 {L:aa} {c c' d d':T} (h:lt (L.length+2) c'=true) (h':lt (L.length+2) d'=true):old (d::c::L) (d'::c'::L):=fun n e q=>by
 unfold at_ at q ⊢
 split at q
 ·cases q;exact .inr h'
 ·rename_i z
  rw [if_neg (show ¬ n=(c::L).length from z)];unfold at_ at q ⊢
  split at q
  ·cases q;exact .inr h
  ·rename_i z;rw [if_neg z];exact .inl q
theorem r9 {L:aa} {c c' t:T} (h:lt (L.length+1) c'=true) (ht:lt (L.length+1) t=true):fin (c::L) t (c'::L)=.ok t (c'::L):=yt (Ln:=[]) rfl (Cf h) ht
theorem bA {f:Str} {t:T}:∀{fs:List (Str × T)},(fs.map (·.1)).contains f=false->il fs f t=fs++[(f,t)]
 | [],_=>rfl
 | (g,u)::r,h=>by
  simp only [Q4,List.contains_cons,Bool.or_eq_false_iff] at h;have:g≠f:=fun e=>by rw [e] at h;simp at h
  rw [il,if_neg this,bA h.2];rfl
theorem yu (cn:Str) (a b:Cs) (L:aa):make cn cu [.str a,.str b] L=.ok (.obj cn [("left",.str a),("right",.str b)]) L:=by
 unfold make cu;simp_arith [oK,bA (fs:=[]) (f:="left") rfl,RQ,Sk,show(0:Nat)<200 by decide];simp_arith [bA (fs:=[("left",.str a)]) (f:="right") (by rfl),show(0+1:Nat)<200 by decide,show(1:Nat)<200 by decide];rw [r9 (by simp [lt,jG]) rfl];simp_arith;exact cf (by simp [lt,jG])
theorem P4 {x y z:Cs}:(([x,y,z].map T.str).length:Int)=3:=rfl
theorem Cg (x y z:Cs) (hx:aw x=true) (hz:aw z=true) (L:aa):bh [.lst [.str x,.str y,.str z]] L=.ok .bj L:=by
 unfold bh;simp_arith [show(((0+1+1+1:Nat):Int) != 3)=false from rfl,show(((3:Nat):Int) != 3)=false from rfl];simp_arith [lD x (Ra (aQ hx).2 (by decide)),lD z (Ra (aQ hz).2 (by decide)),hx,hz]
theorem qg (k:Lk) (h:aw k.l=true/\aw k.r=true) (L:aa):eC [aX (gS k)] L=.ok (lT k) L:=by
 unfold eC aX gS lT;simp_arith [Cg _ _ _ h.1 h.2];cases k.same with
 | true =>
  simp_arith [show(gR true == S "same")=true from rfl,ym,yu];exact fin_same (by simp [lt,jG])
 | false =>
  simp_arith [show(gR false == S "same")=false from rfl,show(gR false == S "unlike")=true from rfl,qd,yu];exact fin_same (by simp [lt,jG])
theorem qh (p:Cs × Cs) (h:aw p.1=true/\aw p.2=true) (L:aa):eE [aX (gT p)] L=.ok (pT p) L:=by
 unfold eE aX gT;simp_arith [Cg _ _ _ h.1 h.2];exact fin_same (by simp [lt,fj])
theorem jk {α:Type} {mk:Cs} {g:α->List Cs} {l:List α} {L:aa} (h0:l≠[]) (hq:∀x∈l,mk∉g x) (hl:(glue mk (l.map g)).length<=20000):dR [.lst ((glue mk (l.map g)).map .str),.str mk] L=.ok (.lst (l.map fun x=>aX (g x))) L:=by
 rw [yr _ _ _ hl,show aZ mk (glue mk (l.map g)) [[]]=l.map g from iW (l.map g) [] (by simpa using h0) fun q h=>by obtain⟨x,hx,rfl⟩:=Rj.mp h;exact hq x hx,Sb];rfl
theorem oo (l:List Lk) (h0:l≠[]) (hl:(glue [44] (l.map gS)).length<=20000) (hn:l.length<=3) (h:∀k∈l,aw k.l=true/\aw k.r=true) (L:aa):cJ [.lst ((glue [44] (l.map gS)).map .str)] L=.ok (.lst (l.map lT)) L:=by
 unfold cJ;simp_arith;rw [cV (k:=stays (.lst (l.map fun k=>aX (gS k))) L) rfl l (fun k=>aX (gS k)) lT (by simp_arith [jk h0 (fun k hk=>(Bk.tL (h k hk)).2) hl]) (by exact bE) (by exact Ra hn (by decide)) (by exact fun k hk=>by simp_arith [qg k (h k hk)])];simp_arith;exact fin_same (aW mT)
theorem oq (l:List (Cs × Cs)) (h0:l≠[]) (hl:(glue [44] (l.map gT)).length<=20000) (hn:l.length<=3) (h:∀k∈l,aw k.1=true/\aw k.2=true) (L:aa):cK [.lst ((glue [44] (l.map gT)).map .str)] L=.ok (.lst (l.map pT)) L:=by
 unfold cK;simp_arith;rw [cV (k:=stays (.lst (l.map fun k=>aX (gT k))) L) rfl l (fun k=>aX (gT k)) pT (by simp_arith [jk h0 (fun k hk=>(Bk.tM (h k hk)).2) hl]) (by exact bE) (by exact Ra hn (by decide)) (by exact fun k hk=>by simp_arith [qh k (h k hk)])];simp_arith;exact fin_same (aW ly)
noncomputable def vt (x:Nat × List Im):T:=.lst (x.2.map (·.t))
theorem Ci {r:Rl} (n:Nat):∀x∈rows r,lt n (vt x)=true:=by
 refine Bk.A5 ?_ ?_ ?_ ?_ ?_ <;> (show lt n (T.lst (T8 _ (T8 _ _)))=true;rw [Sb])
 ·exact aW dY
 ·exact aW dY
 ·exact aW mT
 ·exact aW dY
 ·exact aW ly
theorem lF {w:Cs} (hw:(w == S "look")=false/\(w == S "tell")=false) {l:List Fc} (hf:∀f∈l,FG f) (h0:l≠[]) (hl:(glue [44] (l.map cD)).length<=20000) (L:aa):bR [.str w,.lst ((glue [44] (l.map cD)).map .str)] L=.ok (.lst (l.map fT)) L:=by
 unfold bR;simp_arith [hw.1,hw.2,H3 l L h0 hl hf];exact fin_same (aW dY)
theorem Fd {ks:List Kd} {r:Rl} (h:oG ks r):∀x∈rows r,x.2≠[]->(glue [44] (x.2.map (·.tp))).length<=20000->∀L,bR [.str (wordAt x.1),.lst ((glue [44] (x.2.map (·.tp))).map .str)] L=.ok (vt x) L:=by
 obtain⟨_,_,f3,_,f5⟩:=h.qz;have hf:=fun g hg=>(h.f g hg).1
 unfold vt;refine Bk.A5 ?_ ?_ ?_ ?_ ?_ <;> (intro h0 hl L;rw [Sb] at hl ⊢;rw [Sb];have h0:=fun e=>h0 (Tj.mpr e))
 ·exact lF ⟨rfl,rfl⟩ (fun g hg=>hf g (Q8 _ (Q8 _ hg))) h0 hl L
 ·exact lF ⟨rfl,rfl⟩ (fun g hg=>hf g (Q8 _ (Rv _ hg))) h0 hl L
 ·unfold bR
  simp_arith [show(wordAt 2 == S "look")=true from rfl,show cJ [.lst ((glue [44] (r.aC.map ((·.tp) ∘ lI))).map .str)] L=_ from oo _ h0 hl f3 h.l L];exact fin_same (aW mT)
 ·exact lF ⟨rfl,rfl⟩ (fun g hg=>hf g (Rv _ hg)) h0 hl L
 ·unfold bR
  simp_arith [show(wordAt 4 == S "look")=false from rfl,show(wordAt 4 == S "tell")=true from rfl,show cK [.lst ((glue [44] (r.tell.map ((·.tp) ∘ pI))).map .str)] L=_ from oq _ h0 hl f5 h.p L];exact fin_same (aW ly)
theorem Fe (k:Kd) (h:av k.n=true/\k.c<=4) (L:aa):eB [.lst ((Bk.pY k).map .str)] L=.ok (kT k) L:=by
 obtain⟨nm,c,la⟩:=k;obtain⟨h1,h2⟩:=h;have h1:av nm=true:=h1
 have h2:c<=4:=h2;have hn:=aQ (Bk.aV h1)
 unfold eB Bk.pY fJ lC;have hc:∀c≤4,(jy (.str [48+c]) (.tup [.str (S "0"),.str (S "1"),.str (S "2"),.str (S "3"),.str (S "4")]) L=.ok true L)/\ue [.str [48+c]] L=.ok (.int c) L:=fun c h=>by
  have z:∀c≤4,PySem.intText? ⟨#[48+c]⟩=some (c:Int):=by decide +kernel
  refine⟨by rcases(by omega:c=0\/c=1\/c=2\/c=3\/c=4) with rfl|rfl|rfl|rfl|rfl <;> rfl,?_⟩;unfold ue;simp only [z c h,Vl];exact aP (by simp)
 have hw:jy (.str (if la=true then Bk.bT else Bk.bS)) (.tup [.str (S "passing"),.str (S "lasting")]) L=.ok true L/\((if la=true then Bk.bT else Bk.bS) == S "lasting")=la:=by cases la <;> exact⟨rfl,rfl⟩
 simp_arith [hw.1,hw.2,jT nm (Ra hn.2 (by decide)),h1,(hc c h2).1,(hc c h2).2,show(((3:Nat):Int) != 3)=false from rfl];exact fin_same (by simp [lt,fj])
theorem H6 {k:T}:dh [] k=none:=rfl
theorem mY {a b k:T} {ks:List (T × T)}:dh ((a,b)::ks) k=(open Classical in if a=k then some b else dh ks k):=by
 unfold dh;rw [List.find?_cons];by_cases h:a=k <;> simp [h]
theorem Ff {α:Type} {g:α->Cs} (l:List α) (y:Cs):fm (.str y::l.map fun x=>.str (g x))=true:=by
 unfold fm;rw [S1,S1];refine .inl (.inl (QO.mpr fun x hx=>?_));rcases Q5.mp hx with rfl|hx
 ·rfl
 ·obtain⟨z,_,rfl⟩:=Rj.mp hx;rfl
theorem yw {α:Type} {g:α->Cs} {h:α->T} (l:List α) (y:Cs):dJ (l.map fun x=>(.str (g x),h x)) (.str y):=by
 unfold dJ;rw [Sb];exact Ff l y
theorem fU {ks:List (T × T)} {k t:T} (h:∀p∈ks,p.1≠k):dput ks k t=ks++[(k,t)]:=by
 unfold dput;rw [if_neg];intro z;obtain⟨p,hp,e⟩:=S7.mp z;exact h p hp (by simpa using e)
theorem uY (p:Cs) (hp:p.length<=20000) (hc:∃c r,p=c::r/\c≠32/\c≠35) (L:aa):gN [.str p] L=.ok (.bl true) L:=by
 obtain⟨c,p,rfl,h1,h2⟩:=hc;obtain⟨q,e,hl⟩:=Bk.yc h1 p;have hs:jY (.str (c::p)) [.str [32]] L=.ok (.str (c::q)) L:=by
  unfold jY;simp only [];rw [e,Bk.iP,aP (by simp only [QX] at hp ⊢;unfold lim;omega)]
 unfold gN;simp_arith [jO,hs,show((c::q:Cs) == [])=false from rfl,yn (s:=c::q) (by simp),List.headD_cons,show(([c]:Cs) == [35])=false from beq_eq_false_iff_ne.mpr fun z=>h2 (TU z).1]
theorem Bb (ls:List Cs) (h0:ls≠[]) (hn:ls.length<=6) (h:∀l∈ls,10∉l/\l.length<=20000/\∃c r,l=c::r/\c≠32/\c≠35) (L:aa):dF [.str (jn [10] ls)] L=.ok (.lst (ls.map .str)) L:=by
 have hs:jX true (.str (jn [10] ls)) [.str (S "\n")] L=.ok (.lst (ls.map .str)) L:=by
  unfold jX;simp only [];have hd:((ls.map toS).all fun s=>decide (s.cps.toList.length<=lim))=true:=by
   rw [Xy];refine QO.mpr fun l hl=>?_
   simp only [Vb,Bk.iP,decide_eq_true_eq];exact Ra (h l hl).2.1 (by decide)
  rw [show Uy (toS (jn [10] ls)) (toS (S "\n"))=ls.map toS from Bk.p7 h0 fun l hl=>(h l hl).1,aP ⟨by decide,hd⟩,fk,aP (by simp;unfold lim;omega),Sb];simp [mk,Vb,Bk.iP]
 unfold dF;simp_arith;rw [lz (k:=stays (.lst (ls.map .str)) L) rfl ls T.str (fun _=>true) T.str (by simp_arith [jN,hs]) (by exact bE) (by unfold lim;omega) (by exact fun b hb=>by simp_arith [uY b (h b hb).2.1 (h b hb).2.2]) (by exact fun b _ _=>by simp_arith),Xk.mpr fun _ _=>rfl];simp_arith;exact fin_same (aW fun _ _=>rfl)
noncomputable def qi (acc:List Cs):T:=.ah (acc.map fun x=>(.str x,.bl true))
theorem yx (acc:List Cs) (x:Cs):dput (acc.map fun x=>(T.str x,T.bl true)) (.str x) (.bl true)=(if x∈acc then acc else acc++[x]).map fun x=>(T.str x,T.bl true):=by
 by_cases h:x∈acc
 ·rw [if_pos h]
  unfold dput;rw [if_pos (S7.mpr ⟨(.str x,.bl true),Rj.mpr ⟨x,h,rfl⟩,by simp⟩)]
  conv=>rhs;rw [<- Wr (acc.map _)]
  refine VA fun p hp=>?_
  obtain⟨y,_,rfl⟩:=Rj.mp hp;by_cases e:T.str y=T.str x
  ·rw [if_pos e];rfl
  ·rw [if_neg e];rfl
 ·rw [if_neg h,fU]
  ·simp
  ·intro p hp
   obtain⟨y,hy,rfl⟩:=Rj.mp hp;exact fun e=>h (by cases e;exact hy)
theorem uZ {fs:List Fc} {L:aa} {E:List Cs->T} {b:SS} {k:aa->Prop} {o:O} {P:Cs->Prop} (ho:forL k (.one 2) (ab [aT (src (vi 2 1)) (.one 3) b]) (fs.map fT) [some (.lst (fs.map fT)),some (.ref L.length),none,none] (E []::L)=o) (hk:∀L,k L) (hl:(fs.flatMap (·.as)).length<=32) (hf:∀f∈fs,∀a∈f.as,P a)
  (hb:∀(f:Fc) (a:Cs) (acc:List Cs),P a->acc.length<lim->b [some (.lst (fs.map fT)),some (.ref L.length),some (fT f),some (.str a)] (E acc::L)=.nx [some (.lst (fs.map fT)),some (.ref L.length),some (fT f),some (.str a)] (E (dW a acc)::L)):∃z w,o=.nx [some (.lst (fs.map fT)),some (.ref L.length),z,w] (E (opens fs)::L):=by
 have h:=qb fs fT E (fun acc f=>f7 f.as acc) (fun r acc=>acc.length+(r.flatMap (·.as)).length<=32/\∀f∈r,∀a∈f.as,P a) (fun z w=>[some (.lst (fs.map fT)),some (.ref L.length),z,w]) (s:=[]) ho (fun _=>hk _) (fun _ _ _=>rfl) ⟨by simpa using hl,hf⟩ fun f r acc w h=>by
  have h1:=je f.as acc;have h2:=h.1
  rw [Wg,QT] at h2;refine⟨⟨by omega,fun g hg=>h.2 g (QV _ hg)⟩,?_⟩;simp_arith;generalize ho:forL _ _ _ _ _ _=o;obtain⟨z,_,rfl⟩:=qb f.as T.str E (fun acc a=>dW a acc) (fun r acc=>acc.length+r.length<=32/\∀a∈r,P a) (fun z (_:Unit)=>[some (.lst (fs.map fT)),some (.ref L.length),some (fT f),z]) (w:=()) ho (fun _=>sv) (fun _ _ _=>rfl) ⟨by omega,h.2 f QR⟩ fun a r acc _ h=>by
   have h1:=Bk.pV a acc;have h2:=h.1
   rw [QX] at h2;exact⟨⟨by omega,fun g hg=>h.2 g (QV _ hg)⟩,(),hb f a acc (h.2 a QR) (by unfold lim;omega)⟩
  exact⟨z,rfl⟩
 rw [show fs.foldl (fun acc f=>f7 f.as acc) []=opens fs from List.foldl_flatMap.symm] at h;exact h
theorem Bc (fs:List Fc) (hf:∀f∈fs,∀a∈f.as,aw a=true) (hl:(fs.flatMap (·.as)).length<=32) (L:aa):dE [.lst (fs.map fT)] L=.ok (.lst ((opens fs).map .str)) L:=by
 unfold dE;simp_arith;generalize ho:forL _ _ _ _ _ _=o;obtain⟨z,w,rfl⟩:=uZ (E:=qi) ho (fun _=>sv) hl hf fun f a acc hn hl=>by
  simp_arith [tT a (aQ hn).1];unfold dW;cases hg:great a with
  | false=>simp_arith
  | true=>simp_arith [lN,qi,hl,show dJ (acc.map fun x=>(T.str x,T.bl true)) (.str a) from yw (g:=id) _ a,and_self,yx]
 have hz:(opens fs).length<=lim:=by
  have:(opens fs).length<=_:=je (fs.flatMap (·.as)) [];simp only [RO] at this;unfold lim;omega
 have hb:dm true [.ref L.length] (qi (opens fs)::L)=.ok (.lst ((opens fs).map .str)) (qi (opens fs)::L):=by
  have e:((opens fs).map fun x=>(T.str x,T.bl true)).map (·.1)=(opens fs).map .str:=by simp
  unfold dm qi;simp only [fc,dy,dX];rw [e,fk,aP (by simpa using hz)];rfl
 simp_arith [hb];exact dZ (aW fun _ _=>rfl)
noncomputable def dI (x:Nat × List Im):T × T:=(.str (wordAt x.1),vt x)
theorem se (n:Nat):∀l:List (Nat × List Im),(∀x∈l,lt n (vt x)=true)->lt n (.ah (l.map dI))=true
 | [],_=>rfl
 | x::l,h=>by
  have:=se n l fun y hy=>h y (QV _ hy)
  simp only [lt,Q4,yU,dI] at this ⊢;simp [h x QR,lt_str,this]
theorem Fg {x:T} {r:List T} {L:aa} (h:r.length<=lim):mr true (.lst (x::r)) (some 1) none L=.ok (.lst r) L:=by
 unfold mr vw cut clip;simp [fk,aP h,mk]
theorem H7 {x y z:T} {r:List T} {L:aa} (h:r.length<=lim):mr true (.lst (x::y::z::r)) (some 3) none L=.ok (.lst r) L:=by
 have e:cut (x::y::z::r) (some 3) none=r:=by
  unfold cut clip;simp only [QX];rw [if_neg (by decide),show min (3:Int).toNat (r.length+1+1+1)=3 by omega];simp
 unfold mr vw;simp [e,fk,aP h,mk]
noncomputable def LY:List T:=[.str (S "take"),.str (S "keep"),.str (S "look"),.str (S "put"),.str (S "tell")]
theorem H8 {m n:Nat} {L:aa} (h:m<=n) (hn:n<5):∃t,mr true bF (some (m:Int)) none L=.ok t L/\jy (.str (wordAt n)) t L=.ok true L:=by
 obtain⟨a,b,c⟩:=(by decide +kernel:∀n<5,∀m≤n,dat 8 (.str (wordAt n))=true/\(cut LY (some (m:Int)) none).all (dat 8)=true/\((cut LY (some (m:Int)) none).any fun y=>eqT y (.str (wordAt n)))=true) n hn m h;refine⟨_,rfl,?_⟩;show a8 _ (R.ok ((cut LY (some (m:Int)) none).any fun y=>eqT y (.str (wordAt n))) L)=_
 rw [aP ⟨a,b⟩,c]
theorem H9 {n:Nat} {L:aa} (hn:n<5):zo bF [.str (wordAt n)] L=.ok (.int n) L:=by
 rcases(by omega:n=0\/n=1\/n=2\/n=3\/n=4) with rfl|rfl|rfl|rfl|rfl <;> rfl
theorem yy {L:aa} {a c:T} (ha:lt L.length a=true) (hc:lt L.length c=true):fin L (.tup [a,.ref L.length]) (c::L)=.ok (.tup [a,c]) L:=by
 unfold fin;have e:(c::L).drop ((c::L).length - L.length)=L:=by simp
 rw [e,if_pos (gf L)];unfold bZ;rw [if_neg (by simp [lt,fj,ha])];have e1:bZ L.length (c::L) 8 a=some a:=by unfold bZ;rw [if_pos ha]
 have e2:bZ L.length (c::L) 8 (.ref L.length)=some c:=by
  unfold bZ;rw [if_neg (by simp [lt])];simp only [dy];unfold bZ;rw [if_pos hc]
 simp [Tw,e1,e2,lift]
theorem Fh {α:Type} {g:α->Cs} {l:List α} (h:(l.map g).Nodup):(l.map fun x=>T.str (g x)).Nodup:=by
 rw [show(l.map fun x=>T.str (g x))=(l.map g).map T.str by simp];exact List.Pairwise.map T.str (fun a b hab e=>hab (T.str.inj e)) h
theorem yz {α:Type} {g:α->Cs} {h:α->T} {l:List α} {x:α} (hn:(l.map g).Nodup) (hx:x∈l):dh (l.map fun x=>(.str (g x),h x)) (.str (g x))=some (h x):=by
 induction l with
 | nil=>cases hx
 | cons y l ih =>
  rw [Q4,Sf] at hn;rw [Q4,mY];rcases Q5.mp hx with rfl|hx
  ·rw [if_pos rfl]
  ·rw [if_neg (fun e=>hn.1 (by rw [T.str.inj e];exact Ry hx)),ih hn.2 hx]
theorem Be {l:List (T × T)} {k:T} (h:∀p∈l,p.1≠k):dh l k=none:=by
 induction l with
 | nil=>rfl
 | cons p l ih=>rw [mY,if_neg (h p QR),ih fun q hq=>h q (QV _ hq)]
theorem ou (l:List (Nat × List Im)) (y:Cs):dJ (l.map dI) (.str y):=yw (g:=fun x:Nat × List Im=>wordAt x.1) (h:=vt) l y
theorem yA {r:Rl}:∀x∈rows r,x.1<5:=Bk.A5 (show 0<5 by decide) (show 1<5 by decide) (show 2<5 by decide) (show 3<5 by decide) (show 4<5 by decide)
theorem gx {r:Rl} {x:Nat × List Im} (h:x∈fP r):x∈rows r/\x.1<5/\x.2≠[]:=by
 obtain⟨h1,h2⟩:=Ti.mp h;exact⟨h1,yA x h1,fun e=>by unfold Bk.ne at h2;rw [e] at h2;cases h2⟩
theorem yB (r:Rl):((fP r).map (·.1)).Pairwise (· < ·):=List.Pairwise.sublist (List.filter_sublist.map _) (show [0,1,2,3,4].Pairwise (· < ·) by decide)
theorem qj {r:Rl} {x:Nat × List Im} (hx:x∈rows r):dh ((fP r).map dI) (.str (wordAt x.1))=if x.2=[] then none else some (vt x):=by
 by_cases h0:x.2=[]
 ·rw [if_pos h0]
  refine Be fun p hp e=>?_
  obtain⟨y,hy,rfl⟩:=Rj.mp hp;obtain⟨h1,h2,h3⟩:=gx hy;have e:=Bk.yh (f:=fun z:Nat × List Im=>z.1) (show((rows r).map (·.1)).Nodup from(by decide:[0,1,2,3,4].Nodup)) h1 hx (Bk.ic h2 (yA x hx) (T.str.inj (show T.str (wordAt y.1)=T.str (wordAt x.1) from e)))
  exact h3 (e ▸ h0)
 ·rw [if_neg h0]
  refine yz (g:=fun x:Nat × List Im=>wordAt x.1) (h:=vt) (l:=fP r) ?_ (Ti.mpr ⟨hx,?_⟩)
  ·refine Up.mpr ((Up.mp (yB r)).imp_of_mem fun ha hb h e=>?_)
   exact Sk _ (Bk.ic (gx ha).2.1 (gx hb).2.1 e ▸ h)
  ·unfold Bk.ne
   simpa using h0
theorem yC {r:Rl} {x:Nat × List Im} (hx:x∈rows r) (L:aa):jy (.str (wordAt x.1)) (.ref L.length) (.ah ((fP r).map dI)::L)=.ok (!decide (x.2=[])) (.ah ((fP r).map dI)::L):=by
 unfold jy;simp only [fc,dy,dX];rw [aP (ou _ _),qj hx];by_cases h:x.2=[] <;> simp [h]
theorem lG {r:Rl} {x:Nat × List Im} (hx:x∈rows r) (L:aa):lR (.ah ((fP r).map dI)) [.str (wordAt x.1),.lst []] L=.ok (vt x) L:=by
 unfold lR vw;simp only [];rw [aP (ou _ _),qj hx];by_cases h:x.2=[]
 ·rw [if_pos h];unfold vt;rw [h];rfl
 ·rw [if_neg h];rfl
theorem sf {ks:List Kd} {r:Rl} (h:oG ks r) (L:aa):rW [.str r.title,.ah ((fP r).map dI)] L=.ok (aB r) L:=by
 have m:∀{α:Type} (i:α->Im) (l:List α),(l.map i).map (·.t)=l.map fun a=>(i a).t:=fun i l=>by rw [Sb];rfl
 have g0:=lG (r:=r) (x:=(0,r.take.map fI)) (by simp [rows]);have g1:=lG (r:=r) (x:=(1,r.keep.map fI)) (by simp [rows])
 have g2:=lG (r:=r) (x:=(2,r.aC.map lI)) (by simp [rows]);have g3:=lG (r:=r) (x:=(3,r.put.map fI)) (by simp [rows])
 have g4:=lG (r:=r) (x:=(4,r.tell.map pI)) (by simp [rows]);unfold vt at g0 g1 g2 g3 g4;rw [m] at g0 g1 g2 g3 g4;have g0:∀L,lR (.ah ((fP r).map dI)) [.str (wordAt 0),.lst []] L=.ok (.lst (r.take.map fT)) L:=g0
 have g1:∀L,lR (.ah ((fP r).map dI)) [.str (wordAt 1),.lst []] L=.ok (.lst (r.keep.map fT)) L:=g1;have g2:∀L,lR (.ah ((fP r).map dI)) [.str (wordAt 2),.lst []] L=.ok (.lst (r.aC.map lT)) L:=g2
 have g3:∀L,lR (.ah ((fP r).map dI)) [.str (wordAt 3),.lst []] L=.ok (.lst (r.put.map fT)) L:=g3;have g4:∀L,lR (.ah ((fP r).map dI)) [.str (wordAt 4),.lst []] L=.ok (.lst (r.tell.map pT)) L:=g4
 obtain⟨f1,f2,_⟩:=h.qz;have hl:r.take.length+r.keep.length<=lim:=by unfold lim;omega
 have hf:=fun f hf=>(h.f f (Q8 r.put hf)).1
 have ho:=Bc (r.take++r.keep) (fun f h=>(hf f h).as) (by
  have:=Bk.f9 (l:=r.take++r.keep) (g:=(·.as)) (B:=4) fun f h=>(hf f h).n
  rw [QT] at this;omega)
 rw [Rg] at ho;unfold rW make gq aB;simp_arith [oK,show S "take"=wordAt 0 from rfl,show S "keep"=wordAt 1 from rfl,show S "look"=wordAt 2 from rfl,show S "put"=wordAt 3 from rfl,show S "tell"=wordAt 4 from rfl,g0,g1,g2,g3,g4,RQ,Nat.reduceLT,bA (fs:=[]) (f:="title") (by rfl),bA (fs:=[("title",.str r.title)]) (f:="taken") (by rfl),bA (fs:=[("title",.str r.title),("taken",.lst (r.take.map fT))]) (f:="kept") (by rfl),bA (fs:=[("title",.str r.title),("taken",.lst (r.take.map fT)),("kept",.lst (r.keep.map fT))]) (f:="looks") (by rfl),bA (fs:=[("title",.str r.title),("taken",.lst (r.take.map fT)),("kept",.lst (r.keep.map fT)),("looks",.lst (r.aC.map lT))]) (f:="given") (by rfl),bA (fs:=[("title",.str r.title),("taken",.lst (r.take.map fT)),("kept",.lst (r.keep.map fT)),("looks",.lst (r.aC.map lT)),("given",.lst (r.put.map fT))]) (f:="told") (by rfl),bA (fs:=[("title",.str r.title),("taken",.lst (r.take.map fT)),("kept",.lst (r.keep.map fT)),("looks",.lst (r.aC.map lT)),("given",.lst (r.put.map fT)),("told",.lst (r.tell.map pT))]) (f:="names") (by rfl),Tt,fld,Rb,show(("taken":Str) == "title")=false by decide,show(("kept":Str) == "title")=false by decide,show(("kept":Str) == "taken")=false by decide,QT,aP hl,ho];rw [r9]
 ·simp_arith
  refine(cf ?_).trans ?_
  ·simp [lt,jG,gd,dY,ly,mT,lx]
  ·rfl
 ·simp [lt,jG,gd,dY,ly,mT,lx]
 ·rfl
theorem qk {m:Cs}:∀(qs:List (List Cs)) (q:List Cs),q∈qs->q.length<=(glue m qs).length
 | [a],q,h=>by rw [Rr.mp h];exact Q3 _
 | a::b::r,q,h=>by
  show q.length<=(a++m::glue m (b::r)).length;rw [QT,QX];rcases Q5.mp h with e|h
  ·rw [e];omega
  ·have:=qk (m:=m) (b::r) q h;omega
theorem qm {ks:List Kd} {r:Rl} (h:oG ks r) (hl:(dQ r).length<=20000) (L:aa) :
  eF [.lst ((dQ r).map .str)] L=.ok (.tup [.str r.title,.ah ((fP r).map dI)]) L:=by
 have ht:=aQ (Bk.aV h.t);have y7:∀L,ay [.lst ((dQ r).map .str),.int 0] L=.ok (.str Bk.eL) L:=fun L=>dH (dQ r) 0 L
 have yp:∀L,ay [.lst ((dQ r).map .str),.int 1] L=.ok (.str r.title) L:=fun L=>dH (dQ r) 1 L
 have uK:∀L,ay [.lst ((dQ r).map .str),.int 2] L=.ok (.str [58]) L:=fun L=>dH (dQ r) 2 L
 have Nn:(glue [59] ((fP r).map gU)).length<=20000:=Ra (Nat.le_add_right _ 3) hl;have hne:fP r≠[]:=fun e=>by
  have z:∀x∈rows r,x.2=[]:=fun x hx=>by
   have:=List.filter_eq_nil_iff.mp e x hx;unfold Bk.ne at this;simpa using this
  have z0:=z (0,r.take.map fI) (by simp [rows]);have z1:=z (1,r.keep.map fI) (by simp [rows])
  exact h.hd (Tj.mp z0) (Tj.mp z1)
 have JE:=fun L=>jk (L:=L) (mk:=[59]) hne (fun x hx=>(W.no (by decide +kernel) (by decide) (h.part (gx hx).1).1).1) Nn
 unfold eF bF;simp_arith [y7,yp,uK,cq,show S "rule"=Bk.eL from rfl,jT r.title (Ra ht.2 (by decide)),h.t];rw [show mr true (.lst ((dQ r).map .str)) (some 3) none (.ah []::L)=.ok (.lst ((glue [59] ((fP r).map gU)).map .str)) (.ah []::L) from H7 (by simp;unfold lim;omega)];simp_arith [JE];generalize ho:forL _ _ _ _ _ _=o;have h2:=mU ho (fP r) (fun x=>aX (gU x)) (fun q φ L'=>∃done m o4 o5,done++q=fP r/\(∀y∈q,m<=y.1)/\φ=[some (.lst ((dQ r).map .str)),some (.str r.title),some (.ref L.length),some (.int (m:Nat)),o4,o5]/\L'=.ah (done.map dI)::L)
  (fun o=>∃o3 o4 o5,o=.nx [some (.lst ((dQ r).map .str)),some (.str r.title),some (.ref L.length),o3,o4,o5] (.ah ((fP r).map dI)::L)) rfl ⟨[],0,none,none,rfl,fun _ _=>Rf _,rfl,rfl⟩ (fun _ _ eJ eP x q φ L' hh=>by
   obtain⟨done,m,o4,o5,e1,hm,rfl,rfl⟩:=hh;refine⟨sv,_,rfl,?_⟩;have Np:x∈fP r:=by rw [<- e1];simp
   obtain⟨x1,x2,x3⟩:=gx Np;have hs:=yB r
   rw [<- e1,Rg,Q4,List.pairwise_append,U2] at hs;obtain⟨_,⟨hq,_⟩,hd⟩:=hs;obtain⟨t,w1,w2⟩:=H8 (L:=.ah (done.map dI)::L) (hm x QR) x2;have w3:=H9 (L:=.ah (done.map dI)::L) x2
   unfold bF at w1 w3;have P5:ay [aX (gU x),.int 0] (.ah (done.map dI)::L)=.ok (.str (wordAt x.1)) (.ah (done.map dI)::L):=dH (gU x) 0 _
   have hlen:=Ra (qk (m:=[59]) ((fP r).map gU) _ (Rj.mpr ⟨x,Np,rfl⟩)) Nn;have hlen:(glue [44] (x.2.map (·.tp))).length<=20000:=Nat.le_of_succ_le hlen
   have Bx:mr true (aX (gU x)) (some 1) none (.ah (done.map dI)::L)=.ok (.lst ((glue [44] (x.2.map (·.tp))).map .str)) (.ah (done.map dI)::L):=Fg (by simp;unfold lim;omega);have GA:done.length<lim:=by
    have z:done.length<=(fP r).length:=by rw [<- e1];simp
    have:(fP r).length<=5:=W4 _ _;unfold lim;omega
   have q9:dput (done.map dI) (.str (wordAt x.1)) (vt x)=(done++[x]).map dI:=by
    rw [fU,Rg];rfl;intro p hp e;obtain⟨y,hy,rfl⟩:=Rj.mp hp;have:=Bk.ic (gx (by rw [<- e1];exact Q8 _ hy)).2.1 x2 (T.str.inj (show T.str (wordAt y.1)=T.str (wordAt x.1) from e))
    have:=hd y.1 (Ry hy) x.1 QR;omega
   simp_arith [eJ,eP,P5,w1,w2,w3,Bx,Fd h x x1 x3 hlen,lN,GA,ou,and_self,q9];exact⟨done++[x],x.1+1,_,_,by simpa using e1,fun y hy=>hq y.1 (Ry hy),rfl,rfl⟩)
  fun φ L' hh=>by
   obtain⟨done,m,o4,o5,e1,hm,rfl,rfl⟩:=hh;rw [RP] at e1;rw [e1];exact⟨sv,_,_,_,rfl⟩
 obtain⟨o3,o4,o5,rfl⟩:=h2;have n0:=yC (r:=r) (x:=(0,r.take.map fI)) (by simp [rows]) L
 have n1:=yC (r:=r) (x:=(1,r.keep.map fI)) (by simp [rows]) L;simp only [Tj] at n0 n1;simp_arith [show S "take"=wordAt 0 from rfl,show S "keep"=wordAt 1 from rfl,n0,n1];by_cases h0:r.take=[]
 ·simp_arith [h0,h.hd h0,decide_true,decide_false,SV,TZ,if_true,if_false]
  exact yy rfl (se _ _ fun x hx=>Ci _ x (gx hx).1)
 ·simp_arith [h0,decide_false,SV,TZ,if_true,if_false]
  exact yy rfl (se _ _ fun x hx=>Ci _ x (gx hx).1)
theorem gY {p:Cs} {ts:List Cs} (h:W EW p ts) (L:aa) (hp:p.length<=20000):da [.str p] L=.ok (.lst (ts.map .str)) L:=by
 have z:=h.tk (by decide +kernel) (r:=[]) (fun c h=>nomatch h) .nil;rw [RP,RP] at z;unfold da fH;simp_arith [yo L hp z];exact fin_same (aW fun _ _=>rfl)
theorem yD {L:aa} {c c' d d' t:T} (h:lt (L.length+2) c'=true) (h':lt (L.length+2) d'=true) (ht:lt (L.length+2) t=true):fin (d::c::L) t (d'::c'::L)=.ok t (d'::c'::L):=yt (Ln:=[]) rfl (H5 h h') ht
theorem qn (ks:List Kd) (rs:List Rl) (k:Kd) (ok:av k.n=true/\k.c<=4) (hn:k.n∉ks.map (·.n)) (hz:ks.length<20000) (L:aa) :
  cv [.ref L.length,.ref (L.length+1),.str (Bk.aq k)] (.lst (rs.map aB) :: .lst (ks.map kT)::L)=.ok .bj (.lst (rs.map aB) :: .lst ((ks++[k]).map kT)::L):=by
 obtain⟨w,hl⟩:=Bk.jg ok;have h0:((if k.l=true then Bk.bT else Bk.bS) == Bk.eL)=false:=by cases k.l <;> rfl
 unfold cv cq;simp_arith [gY w _ (Ra hl (by decide)),show ∀L,ix (.lst ((pY k).map .str)) (.int 0) L=.ok (.str (if k.l=true then Bk.bT else Bk.bS)) L from fun _=>yk,show S "rule"=Bk.eL from rfl,h0,Fe k ok];rw [cV (k:=stays (.ref L.length) (.lst (rs.map aB) :: .lst (ks.map kT)::L)) rfl ks kT (fun k=>.str k.n) (by simp_arith) (by exact bE) (by unfold lim;omega) (by exact fun b _=>by simp_arith)];have vd:=A9 (x:=k.n) (ys:=ks.map (·.n)) (L:=.lst (rs.map aB) :: .lst (ks.map kT)::L)
 rw [Sb,decide_eq_false hn] at vd;simp_arith [show(T.lst (ks.map fun k=>.str k.n))=.lst (ks.map (T.str ∘ fun k=>k.n)) from rfl,vd,aP (show ks.length<lim by unfold lim;omega),cO];exact yD (aW tN) (aW jS) rfl
theorem qo (ks:List Kd) (rs:List Rl) {r:Rl} (h:oG ks r) (hn:r.title∉rs.map (·.title)) (hz:rs.length<20000) (L:aa) :
  cv [.ref L.length,.ref (L.length+1),.str (Bk.bO r)] (.lst (rs.map aB) :: .lst (ks.map kT)::L)=.ok .bj (.lst ((rs++[r]).map aB) :: .lst (ks.map kT)::L):=by
 obtain⟨w,hl⟩:=h.line;have km:(dQ r).length<=20000:=by
  have z:=(w.tk (by decide +kernel) (r:=[]) (fun c h=>nomatch h) .nil).len;rw [RP,RP] at z;omega
 unfold cv cq;simp_arith [gY w _ (Ra hl (by decide)),show ∀L,ix (.lst ((dQ r).map .str)) (.int 0) L=.ok (.str Bk.eL) L from fun _=>yk,show S "rule"=Bk.eL from rfl,qm h km];rw [cV (k:=stays (.ref (L.length+1)) (.lst (rs.map aB) :: .lst (ks.map kT)::L)) rfl rs aB (fun k=>.str k.title) (by simp_arith) (by exact bE) (by unfold lim;omega) (by exact fun b _=>by simp_arith)];have vd:=A9 (x:=r.title) (ys:=rs.map (·.title)) (L:=.lst (rs.map aB) :: .lst (ks.map kT)::L)
 rw [Sb,decide_eq_false hn] at vd;simp_arith [show(T.lst (rs.map fun k=>.str k.title))=.lst (rs.map (T.str ∘ fun k=>k.title)) from rfl,vd,sf h,aP (show rs.length<lim by unfold lim;omega),cO];exact yD (aW tN) (aW jS) rfl
theorem Fi {ps:List (T × T)} (h:(ps.map (·.1)).Nodup):m5 ps=ps:=by
 have key:∀(r d:List (T × T)),((d++r).map (·.1)).Nodup->r.foldl (fun acc p=>dput acc p.1 p.2) d=d++r:=by
  intro r;induction r with
  | nil=>intro d _;simp
  | cons p r ih =>
   intro d hn;rw [US,fU,ih,Rn];rfl
   ·rw [Rn];exact hn
   ·intro q hq e
    rw [Rg,Um] at hn;exact hn.2.2 _ (Ry hq) _ (Ry QR) e
 exact key ps [] h
theorem Ia {α:Type} {g h:α->T} (l:List α):prsOf (l.map fun x=>.tup [g x,h x])=some (l.map fun x=>(g x,h x)):=by
 induction l with
 | nil=>rfl
 | cons x l ih=>simp only [Q4,prsOf,ih]
theorem Fj {α:Type} {g:α->Cs} {h:α->T} (l:List α) (hn:(l.map g).Nodup) (hl:l.length<=100000) (L:aa):sC (l.map fun x=>.tup [.str (g x),h x]) L=.ok (.ref L.length) (.ah (l.map fun x=>(.str (g x),h x))::L):=by
 have e:(l.map fun x=>(T.str (g x),h x)).map (·.1)=l.map fun x=>T.str (g x):=by simp
 have hm:fm (l.map fun x=>T.str (g x))=true:=by
  unfold fm;rw [S1,S1];exact .inl (.inl (by simp [qE]))
 unfold sC;rw [Ia];simp only [];rw [Fi (by rw [e];exact Fh hn),e,aP ⟨hm,by simpa using hl⟩]
theorem eM (ks:List Kd) (fs:List Fc) (x:T) (L:aa) (hx:vw L x=.lst (ks.map kT)) (hn:(ks.map (·.n)).Nodup) (hk:ks.length<=20000) (hf:∀f∈fs,aM ks f) :
  aS [x,.lst (fs.map fT)] L=.ok .bj L:=by
 unfold aS;simp_arith;rw [cV (k:=stays x L) rfl ks kT (fun k=>.tup [.str k.n,.int k.c]) (by simp only [tH,FI,U1,S8,cm,ao,items,hx]) (by exact bE) (by unfold lim;omega) (by exact fun b _=>by simp_arith)];simp_arith [bK,Fj (g:=fun k:Kd=>k.n) (h:=fun k=>.int k.c) ks hn (by omega)];generalize ho:forL _ _ _ _ _ _=o;obtain⟨z,rfl⟩:=lA fs fT (fun z=>[some x,some (.lst (fs.map fT)),some (.ref L.length),z]) ho sv (fun _ _=>rfl) fun f hm=>by
  obtain⟨k,hk,e1,e2⟩:=hf f hm;have hg:=yz (g:=fun k:Kd=>k.n) (h:=fun k=>T.int k.c) hn hk
  rw [e1] at hg;have hfit:dJ (ks.map fun k=>(T.str k.n,T.int k.c)) (.str f.k):=yw (g:=fun k:Kd=>k.n) (h:=fun k=>T.int k.c) ks f.k
  have i1:jy (.str f.k) (.ref L.length) (.ah (ks.map fun k=>(.str k.n,.int k.c))::L)=.ok true (.ah (ks.map fun k=>(.str k.n,.int k.c))::L):=by
   unfold jy;simp only [fc,dy,dX];rw [aP hfit,hg];rfl
  have i2:ix (.ref L.length) (.str f.k) (.ah (ks.map fun k=>(.str k.n,.int k.c))::L)=.ok (.int k.c) (.ah (ks.map fun k=>(.str k.n,.int k.c))::L):=by
   unfold ix;simp only [fc,dy,dX];rw [aP hfit,hg];rfl
  simp_arith [i1,i2,show((f.as.length:Int) != (k.c:Int))=false by simp;omega]
 simp_arith;exact dZ rfl
theorem gZ (ls:List Cs) (fs:List Fc) (hf:∀f∈fs,f.k∉ls) (L:aa):bq [.lst (ls.map .str),.lst (fs.map fT)] L=.ok .bj L:=by
 unfold bq;simp_arith;generalize ho:forL _ _ _ _ _ _=o;obtain⟨z,rfl⟩:=lA fs fT (fun z=>[some (.lst (ls.map .str)),some (.lst (fs.map fT)),z]) ho sv (fun _ _=>rfl) fun f hm=>by simp_arith [decide_eq_false (hf f hm)]
 simp_arith
theorem lH {f:Str->Option Fn} {F:Fn} {a:SE} {φ:Fr} {L:aa} {r:Rl} (ha:a φ L=.ok (aB r) L) (hf:f "Rule"=some F):mZ "calls" f a [] φ L=F [aB r] L:=by
 unfold mZ;rw [ha,ao,vr];unfold aB;simp only [hf];rfl
theorem ox (r:Rl) (L:aa):aR [aB r] L=.ok (.bl (decide (r.take=[]))) L:=by
 unfold aR;simp_arith;cases r.take with
 | nil=>rfl
 | cons a l=>rw [show(((a::l).length:Int) == 0)=false by simp;omega];simp
theorem oy (ls:List Cs) (r:Rl) (hc:r.take=[]->∀f∈r.put,f.k∈ls) (L:aa):cN [.lst (ls.map .str),aB r] L=.ok .bj L:=by
 unfold cN;simp only [mR,QX,RO,Nat.reduceAdd,if_true];simp_arith;rw [lH (r:=r) (F:=aR) rfl rfl];simp_arith [ox];cases ht:r.take with
 | cons a l=>simp only [reduceCtorEq,decide_false];simp_arith
 | nil =>
  simp only [decide_true];simp_arith;generalize ho:forL _ _ _ _ _ _=o;obtain⟨z,rfl⟩:=lA r.put fT (fun z=>[some (.lst (ls.map .str)),some (aB r),z]) ho sv (fun _ _=>rfl) fun f hm=>by simp_arith [decide_eq_true (hc ht f hm)]
  simp_arith
theorem iY {L:aa} {xs ys:List T} {t:T} (ht:vw (.lst xs::L) t=.lst ys\/vw (.lst xs::L) t=.tup ys) (h:xs.length+ys.length<=lim):vC (.ref L.length) [t] (.lst xs::L)=.ok .bj (.lst (xs++ys)::L):=by
 unfold vC;simp only [dy];rcases ht with ht|ht <;> · simp only [ht];rw [aP h,rU]
theorem oz {α:Type} {k:aa->Prop} {b:SS} {o:O} {L:aa} {acc:List Cs} (xs:List α) (enc:α->T) (g:α->List Cs) (i:Nat) (F:Option T->Fr) (z:Option T)
  (ho:forL k (.one i) b (xs.map enc) (F z) (.lst (acc.map .str)::L)=o) (hl:acc.length+(xs.flatMap g).length<=20000) (hk:∀L',k L') (hF:∀z x,(F z).set i (some x)=F (some x))
  (hb:∀x∈xs,∀acc:List Cs,acc.length+(g x).length<=20000->b (F (some (enc x))) (.lst (acc.map .str)::L)=.nx (F (some (enc x))) (.lst ((acc++g x).map .str)::L)) :
  ∃z,o=.nx (F z) (.lst ((acc++xs.flatMap g).map .str)::L) :=
 mU ho xs enc (fun r φ L'=>∃z dq,φ=F z/\L'=.lst (dq.map .str)::L/\dq++r.flatMap g=acc++xs.flatMap g/\∀x∈r,x∈xs) (fun o=>∃z,o=.nx (F z) (.lst ((acc++xs.flatMap g).map .str)::L)) rfl ⟨z,acc,rfl,rfl,rfl,fun _ h=>h⟩ (fun _ _ eJ eP x r φ L' hh=>by
  obtain⟨z,dq,rfl,rfl,e,hx⟩:=hh;refine⟨hk _,_,rfl,?_⟩;rw [hF,hb x (hx x QR) dq (by have:=congrArg Th e;simp at this hl ⊢;omega),tQ,eJ];exact⟨_,dq++g x,rfl,rfl,by rw [<- e];simp,fun y hy=>hx y (QV _ hy)⟩)
 fun φ L' hh=>by
  obtain⟨z,dq,rfl,rfl,e,_⟩:=hh;exact⟨hk _,z,by simp at e;rw [<- e]⟩
theorem yE (r:Rl) (hl:(bJ r).length<=20000) (L:aa):bU [aB r] L=.ok (.lst ((bJ r).map .str)) L:=by
 have hs:bJ r=(r.aC.flatMap fun k=>[k.l,k.r])++((r.put.flatMap (·.as))++(r.tell.flatMap fun p=>[p.1,p.2])):=rfl;rw [hs] at hl;simp only [QT] at hl;unfold bU;simp_arith;generalize ho:forL _ _ _ _ _ _=o;obtain⟨z1,rfl⟩:=oz (acc:=[]) r.aC lT (fun k=>[k.l,k.r]) 2 (fun z=>[some (aB r),some (.ref L.length),z,none,none]) none ho (by simp only [RO,RQ,QT];omega) (fun _=>sv) (fun _ _=>rfl) (fun k _ acc h=>by
  simp_arith [show vw (.lst (acc.map .str)::L) (.lst [.str k.l,.str k.r])=.lst ([k.l,k.r].map .str) from rfl,iY (L:=L) (xs:=acc.map .str) (t:=.lst [.str k.l,.str k.r]) (ys:=[k.l,k.r].map .str) (.inl rfl) (by simp at h ⊢;unfold lim;omega)];rw [Rg];rfl)
 simp_arith;generalize ho:forL _ _ _ _ _ _=o;obtain⟨z2,rfl⟩:=oz (acc:=[]++r.aC.flatMap fun k=>[k.l,k.r]) r.put fT (·.as) 3 (fun z=>[some (aB r),some (.ref L.length),z1,z,none]) none ho (by simp only [RO,RQ,QT];omega) (fun _=>sv) (fun _ _=>rfl) (fun f _ acc h=>by
  simp_arith [iY (L:=L) (xs:=acc.map .str) (t:=.tup (f.as.map .str)) (.inr rfl) (by simp at h ⊢;unfold lim;omega),<- Rg])
 simp_arith;generalize ho:forL _ _ _ _ _ _=o;obtain⟨z3,rfl⟩:=oz (acc:=([]++r.aC.flatMap fun k=>[k.l,k.r])++r.put.flatMap (·.as)) r.tell pT (fun p=>[p.1,p.2]) 4 (fun z=>[some (aB r),some (.ref L.length),z1,z2,z]) none ho (by simp only [RO,RQ,QT];omega) (fun _=>sv) (fun _ _=>rfl) (fun p _ acc h=>by
  simp_arith [iY (L:=L) (xs:=acc.map .str) (t:=pT p) (ys:=[p.1,p.2].map .str) (.inr rfl) (by simp at h ⊢;unfold lim;omega)];rw [Rg];rfl)
 simp_arith;rw [hs];simp only [RQ,Rn];exact cf (aW fun _ _=>rfl)
theorem mq (r:Rl) (hl:(bJ r).length<=20000) (hs:∀a∈bJ r,aw a=true/\(great a=true->a∈opens (r.take++r.keep))) (L:aa):de [aB r] L=.ok .bj L:=by
 unfold de;simp_arith [yE r hl];generalize ho:forL _ _ _ _ _ _=o;obtain⟨z,rfl⟩:=lA (bJ r) T.str (fun z=>[some (aB r),z]) ho sv (fun _ _=>rfl) fun f hm=>by
  simp_arith [tT f (aQ (hs f hm).1).1];cases hg:great f with
  | true=>simp_arith [decide_eq_true ((hs f hm).2 hg)]
  | false=>simp_arith
 simp_arith
mutual
theorem qp {n m:Nat} (h:n<=m):∀{t:T},lt n t=true->lt m t=true
 | .ref k,e=>by rw [lt] at e ⊢;exact decide_eq_true (by have:=of_decide_eq_true e;omega)
 | .tup xs,e=>by rw [lt] at e ⊢;exact si h e
 | .lst xs,e=>by rw [lt] at e ⊢;exact si h e
 | .ah ks,e=>by rw [lt] at e ⊢;exact yF h e
 | .obj _ fs,e=>by rw [lt] at e ⊢;exact yG h e
 | .bj,_=>rfl
 | .bl _,_=>rfl
 | .int _,_=>rfl
 | .str _,_=>rfl
 | .cl _,_=>rfl
theorem si {n m:Nat} (h:n<=m):∀{t:List T},fj n t=true->fj m t=true
 | [],_=>rfl
 | x::xs,e=>by rw [fj,QS] at e ⊢;exact⟨qp h e.1,si h e.2⟩
theorem yF {n m:Nat} (h:n<=m):∀{t:List (T × T)},yU n t=true->yU m t=true
 | [],_=>rfl
 | (x,y)::xs,e=>by rw [yU,QS,QS] at e ⊢;exact⟨⟨qp h e.1.1,qp h e.1.2⟩,yF h e.2⟩
theorem yG {n m:Nat} (h:n<=m):∀{t:List (Str × T)},jG n t=true->jG m t=true
 | [],_=>rfl
 | (x,y)::xs,e=>by rw [jG,QS] at e ⊢;exact⟨qp h e.1,yG h e.2⟩
end
theorem sj (a b:T) (L:aa) (ha:lt L.length a=true) (hb:lt L.length b=true):rY [a,b] L=.ok (.obj "Book" [("kinds",a),("rules",b)]) L:=by
 have up:∀{t:T},lt L.length t=true->lt (L.length+1) t=true:=qp (SO _);unfold rY make gu;simp_arith [oK,bA (fs:=[]) (f:="kinds") (by rfl),bA (fs:=[("kinds",a)]) (f:="rules") (by rfl),RQ,Nat.reduceLT];rw [r9 (by simp [lt,jG,up ha,up hb]) rfl];simp_arith;exact cf (by simp [lt,jG,ha,hb])
theorem Bf {ks:List Kd} {rs:List Rl} (hG:KG ks) (hg:∀r∈rs,oG ks r) (L:aa) :
  dG [.ref L.length,.ref (L.length+1)] (.lst (rs.map aB) :: .lst (ks.map kT)::L)=.ok (.obj "Book" [("kinds",.ref L.length),("rules",.ref (L.length+1))]) (.lst (rs.map aB) :: .lst (ks.map kT)::L):=by
 have hk:ks.length<=20000:=Ra hG.len (by decide);unfold dG;simp_arith;rw [lz (k:=stays (.ref L.length) (.lst (rs.map aB) :: .lst (ks.map kT)::L)) rfl ks kT (·.l) (fun k=>.str k.n) (by simp_arith) (by exact bE) (by unfold lim;omega) (by exact fun b _=>by simp_arith) (by exact fun b _ _=>by simp_arith)];simp_arith;generalize ho:forL _ _ _ _ _ _=o;have P6:((ks.filter (·.l)).map fun k=>T.str k.n)=((ks.filter (·.l)).map (·.n)).map T.str:=by simp
 rw [P6] at ho;obtain⟨z,rfl⟩:=lA rs aB (fun z=>[some (.ref L.length),some (.ref (L.length+1)),some (.lst (((ks.filter (·.l)).map (·.n)).map T.str)),z]) ho bE (fun _ _=>rfl) fun r hr=>by
  have g:=hg r hr;obtain⟨f1,f2,f3,f4,f5⟩:=g.qz;have hs:(bJ r).length<=20000:=by
   have z1:=Bk.f9 (l:=r.aC) (g:=fun k=>[k.l,k.r]) (B:=2) fun _ _=>Q3 2
   have z2:=Bk.f9 (l:=r.put) (g:=(·.as)) (B:=4) fun f hf=>(g.f f (Rv _ hf)).1.n
   have z3:=Bk.f9 (l:=r.tell) (g:=fun p=>[p.1,p.2]) (B:=2) fun _ _=>Q3 2
   unfold bJ;rw [QT,QT];omega
  have ct:∀L,bq [.lst (((ks.filter (·.l)).map (·.n)).map T.str),_] L=_:=gZ _ _ g.takes;have cc:∀L,cN [.lst (((ks.filter (·.l)).map (·.n)).map T.str),_] L=_:=oy _ r g.calls
  have Nq:=eM ks (r.take++r.keep++r.put) (.ref L.length) (.lst (rs.map aB) :: .lst (ks.map kT)::L) (by simp_arith) hG.nd hk fun f hf=>(g.f f hf).2
  rw [Rg,Rg] at Nq;simp_arith [QT,aP (show r.take.length+r.keep.length<=lim by unfold lim;omega),aP (show r.take.length+r.keep.length+r.put.length<=lim by unfold lim;omega),Nq,ct,cc,mq r hs g.Lb]
 simp_arith [sj (.ref L.length) (.ref (L.length+1)) (.lst (rs.map aB) :: .lst (ks.map kT)::L) (by simp [lt];omega) (by simp [lt])];exact fin_same (by simp [lt,jG];omega)
theorem yH {ks:List Kd} {rs:List Rl} {L:aa}:fin L (.obj "Book" [("kinds",.ref L.length),("rules",.ref (L.length+1))]) (.lst (rs.map aB) :: .lst (ks.map kT)::L)=.ok (cQ ks rs) L:=by
 unfold fin;have e:(T.lst (rs.map aB) :: .lst (ks.map kT)::L).drop ((T.lst (rs.map aB) :: .lst (ks.map kT)::L).length - L.length)=L:=by
  rw [show(T.lst (rs.map aB) :: .lst (ks.map kT)::L).length - L.length=2 by simp only [QX];omega];rfl
 rw [e,if_pos (gf L)];unfold bZ;rw [if_neg (by simp [lt,jG])];have e1:bZ L.length (.lst (rs.map aB) :: .lst (ks.map kT)::L) 8 (.ref L.length)=some (.lst (ks.map kT)):=by
  unfold bZ;rw [if_neg (by simp [lt])];simp only [n7];unfold bZ;rw [if_pos (aW tN)]
 have e2:bZ L.length (.lst (rs.map aB) :: .lst (ks.map kT)::L) 8 (.ref (L.length+1))=some (.lst (rs.map aB)):=by
  unfold bZ;rw [if_neg (by simp [lt])];simp only [rS];unfold bZ;rw [if_pos (aW jS)]
 simp [Tw,e1,e2,lift,cQ]
theorem qr {ks:List Kd} {rs:List Rl} (hG:KG ks) (hr:rs.length<=2) (hg:∀r∈rs,oG ks r) (hn:(rs.map (·.title)).Nodup) (L:aa) :
  cw [.str (jn [10] (ks.map aq++rs.map bO))] L=.ok (cQ ks rs) L:=by
 have h4:=hG.len;have hl:∀l∈ks.map aq++rs.map bO,10∉l/\l.length<=20000/\∃c r,l=c::r/\c≠32/\c≠35:=fun l hl=>by
  rcases RB.mp hl with h|h
  ·obtain⟨k,hk,rfl⟩:=Rj.mp h
   obtain⟨w,hz⟩:=Bk.jg (hG.ok k hk);refine⟨(w.no (by decide +kernel) (by decide)).2 (by decide),Ra hz (by decide),?_⟩;unfold aq;cases k.l
   ·exact⟨112,_,rfl,by decide,by decide⟩
   ·exact⟨108,_,rfl,by decide,by decide⟩
  ·obtain⟨r,hr,rfl⟩:=Rj.mp h
   obtain⟨w,hz⟩:=(hg r hr).line;exact⟨(w.no (by decide +kernel) (by decide)).2 (by decide),Ra hz (by decide),114,_,rfl,by decide,by decide⟩
 have ne:ks.map aq++rs.map bO≠[]:=fun e=>by
  obtain⟨k,hk,_⟩:=hG.yes;have z:aq k∈ks.map aq++rs.map bO:=Q8 _ (Ry hk)
  rw [e] at z;cases z
 have en:(ks.map aq++rs.map bO).map T.str=(ks.map Sum.inl++rs.map Sum.inr).map fun x:Kd ⊕ Rl=>.str (x.elim aq bO):=by
  rw [Rg,Rg,Sb,Sb,Sb,Sb];rfl
 unfold cw;simp_arith [Bb _ ne (by rw [QT,Lm9,Lm9];omega) hl,en];generalize hT:jn [10] (ks.map aq++rs.map bO)=tx;generalize ho:forL _ _ _ _ _ _=o;have h2:=mU ho (ks.map Sum.inl++rs.map Sum.inr) _ (fun q φ L'=>∃dk k' dr r' o3,q=k'.map Sum.inl++r'.map Sum.inr/\dk++k'=ks/\dr++r'=rs/\φ=[some (.str tx),some (.ref L.length),some (.ref (L.length+1)),o3]/\L'=.lst (dr.map aB) :: .lst (dk.map kT)::L)
  (fun o=>∃o3,o=.nx [some (.str tx),some (.ref L.length),some (.ref (L.length+1)),o3] (.lst (rs.map aB) :: .lst (ks.map kT)::L)) rfl ⟨[],ks,[],rs,none,rfl,rfl,rfl,rfl,rfl⟩ (fun _ _ eJ eP x q φ L' hh=>by
   obtain⟨dk,k',dr,r',o3,e0,e1,e2,rfl,rfl⟩:=hh;refine⟨sv,_,rfl,?_⟩;cases k' with
   | cons k k' =>
    obtain⟨rfl,e9⟩:=TU e0;have nn:=hG.nd
    rw [<- e1,Rg,Q4,Um] at nn;rw [<- e1,QT] at h4;simp_arith [eJ,eP,Sum.elim_inl,qn dk dr k (hG.ok k (by rw [<- e1];simp)) (fun z=>nn.2.2 _ z _ QR rfl) (by omega) L];exact⟨dk++[k],k',dr,r',_,e9,by simpa using e1,e2,rfl,rfl⟩
   | nil =>
    cases r' with
    | nil=>cases e0
    | cons r r' =>
     obtain⟨rfl,e9⟩:=TU e0;rw [RP] at e1;subst e1;rw [<- e2,Rg,Q4,Um] at hn;rw [<- e2,QT] at hr;simp_arith [eJ,eP,Sum.elim_inr,qo dk dr (hg r (by rw [<- e2];simp)) (fun z=>hn.2.2 _ z _ QR rfl) (by omega) L];exact⟨dk,[],dr++[r],r',_,e9,RP _,by simpa using e2,rfl,rfl⟩)
  fun φ L' hh=>by
   obtain⟨dk,k',dr,r',o3,e0,e1,e2,rfl,rfl⟩:=hh;obtain⟨z1,z2⟩:=List.append_eq_nil_iff.mp e0.symm;rw [Tj.mp z1,RP] at e1;rw [Tj.mp z2,RP] at e2;rw [e1,e2];exact⟨sv,_,rfl⟩
 obtain⟨o3,rfl⟩:=h2;simp_arith [Bf hG hg L];exact yH
noncomputable def IY (c:Int) (k:Nat):Int:=((c % 1000000007+17 * k * k+5) * 48271 % 2147483647) * ((c % 1000000007+17 * k * k+5) * 48271 % 2147483647) % 2147483629
theorem jV (ns:List Int) (k:Nat) (hk:k<=100):∃d:Int,0<=d/\∀L,aI [.lst (ns.map .int),.int (k:Nat)] L=.ok (.int d) L:=by
 refine⟨IY (ns.getD k 0) k,S4 _ (by decide),fun L=>?_⟩;have h1:(-18446744073709551616:Int)<17 * (k:Nat):=by omega
 have h2:17 * ((k:Nat):Int)<18446744073709551616:=by omega
 have e1:=S4 ((ns.getD k 0 % 1000000007+17 * k * k+5) * 48271) (show(2147483647:Int)≠0 by decide);have e2:=S6 ((ns.getD k 0 % 1000000007+17 * k * k+5) * 48271) (show(0:Int)<2147483647 by decide)
 have f1:∀{x:Int},0<=x->(-18446744073709551616:Int)<x:=fun h=>by omega
 have f2:∀{x:Int},x<2147483647->x<18446744073709551616:=fun h=>by omega
 unfold aI IY;simp_arith;by_cases h:(k:Int)<ns.length
 ·have e:(ns.map T.int)[k]?=some (.int (ns.getD k 0)):=by
   have:k<ns.length:=by omega
   simp [Gd9,this]
  simp_arith [h,decide_true,eK e,h1,h2,f1 e1,f2 e2]
 ·have e0:ns.getD k 0=0:=by simp [Gd9,SY (show ns.length<=k by omega)]
  rw [e0] at e1 e2 ⊢;simp_arith [h,decide_false,h1,h2,f1 e1,f2 e2]
noncomputable def Fl (sz b a k:Nat):Cs:=(109::Q7 (sz - 1) b).take a++[fF.getD k 0]++(109::Q7 (sz - 1) b).drop (a+1)
noncomputable def y8 (st sz b a w k:Nat):Cs:=if st=2 then [(S "abwxnuvz").getD w 0,48+k] else if st=1 then 109::Q7 k b else Fl sz b a k
noncomputable def Ib (ld:Nat) (t:Cs):Cs:=if ld=1 then 107::t else t
theorem Cj {st sz b a w ld:Nat} (h1:1<=sz) (h2:sz<12) (hb:b∈S "mQ7") (ha:a<sz) (hw:w<8):(∀k<3,av (Ib ld (y8 st sz b a w k))=true)/\∀j<3,∀k<3,Ib ld (y8 st sz b a w j)=Ib ld (y8 st sz b a w k)->j=k:=by
 have A1:∀z<11,∀b∈S "mQ7",∀a<z+1,∀k<3,av (Fl (z+1) b a k)=true/\av (107::Fl (z+1) b a k)=true:=by decide +kernel
 have A2:∀z<11,∀b∈S "mQ7",∀a<z+1,∀j<3,∀k<3,(Fl (z+1) b a j == Fl (z+1) b a k)=true->j=k:=by decide +kernel
 have B:∀b∈S "mQ7",(∀k<3,av (109::Q7 k b)=true/\av (107::109::Q7 k b)=true)/\∀j<3,∀k<3,109::Q7 j b=109::Q7 k b->j=k:=by decide +kernel
 have C:∀w<8,(∀k<3,av [(S "abwxnuvz").getD w 0,48+k]=true/\av [107,(S "abwxnuvz").getD w 0,48+k]=true)/\∀j<3,∀k<3,[(S "abwxnuvz").getD w 0,48+j]=[(S "abwxnuvz").getD w 0,48+k]->j=k:=by decide +kernel
 have D:(∀k<3,av (y8 st sz b a w k)=true/\av (107::y8 st sz b a w k)=true)/\∀j<3,∀k<3,y8 st sz b a w j=y8 st sz b a w k->j=k:=by
  unfold y8;by_cases e:st=2
  ·simp only [if_pos e];exact C w hw
  ·by_cases e1:st=1
   ·simp only [if_neg e,if_pos e1];exact B b hb
   ·simp only [if_neg e,if_neg e1]
    obtain⟨z,rfl⟩:∃z,sz=z+1:=⟨sz - 1,by omega⟩;exact⟨A1 z (by omega) b hb a ha,fun j hj k hk e=>A2 z (by omega) b hb a ha j hj k hk (by rw [e];exact beq_self_eq_true _)⟩
 unfold Ib;by_cases e:ld=1
 ·simp only [if_pos e];exact⟨fun k hk=>(D.1 k hk).2,fun j hj k hk z=>D.2 j hj k hk (TU z).2⟩
 ·simp only [if_neg e];exact⟨fun k hk=>(D.1 k hk).1,D.2⟩
theorem Ic {z:Cs} {i:Int} {L:aa} (h0:0<=i) (h:i<=z.length):mr true (.str z) none (some i) L=.ok (.str (z.take i.toNat)) L:=if_pos ⟨h0,h⟩
theorem Ie {z:Cs} {i:Int} {L:aa} (h0:0<=i) (h:i<=z.length):mr true (.str z) (some i) none L=.ok (.str (z.drop i.toNat)) L:=if_pos ⟨h0,h⟩
theorem tW:∀c≤4,(Sa (toString ((c:Nat):Int))).cps.toList=[48+c]/\((c:Nat):Int).natAbs.log2<1920:=by decide +kernel
theorem qt (c:Nat) (h:c<=4) (L:aa):lQ [.int (c:Nat)] L=.ok (.str [48+c]) L:=by
 unfold lQ;simp only [(tW c h).1];exact az ⟨(tW c h).2,by simp;decide⟩
theorem tX (N:Int):∃nm:Nat->Cs,(∀k<3,av (nm k)=true)/\(∀j<3,∀k<3,nm j=nm k->j=k)/\∀k<3,∀L,aN [.int N,.int (k:Nat),.str (S "k")] L=.ok (.str (nm k)) L:=by
 have r:∀(x m:Int),0<m->∃n:Nat,x % m=(n:Nat)/\(n:Int)<m:=fun x m hm=>⟨(x % m).toNat,by have:=S4 x (show m≠0 by omega);omega,by have:=S4 x (show m≠0 by omega);have:=S6 x hm;omega⟩
 obtain⟨q,eq,hq⟩:=r N 11 (by decide);obtain⟨b,eb,hb⟩:=r (N / 11) 3 (by decide);obtain⟨a,ea,ha⟩:=r (N / 33) (1+(q:Nat)) (by omega);obtain⟨st,es,hs⟩:=r (N / 363) 4 (by decide);obtain⟨w,ew,hw⟩:=r (N / 1452) 8 (by decide);obtain⟨ld,el,hl⟩:=r (N / 11616) 2 (by decide);have Nr:(S "mQ7").getD b 0∈S "mQ7":=(by decide +kernel:∀b<3,(S "mQ7").getD b 0∈S "mQ7") b (by omega)
 obtain⟨n1,n2⟩:=Cj (st:=st) (ld:=ld) (sz:=1+q) (a:=a) (w:=w) (by omega) (by omega) Nr (by omega) (by omega);refine⟨_,n1,n2,fun k hk L=>?_⟩;have x1:ix (.str (S "mQ7")) (.int (b:Nat)) L=.ok (.str [(S "mQ7").getD b 0]) L:=ll (i:=((b:Nat):Int)) (by omega) (show((b:Nat):Int)<3 by omega)
 have x2:ix (.str (S "abcdefgh")) (.int (k:Nat)) L=.ok (.str [fF.getD k 0]) L:=ll (i:=((k:Nat):Int)) (by omega) (show((k:Nat):Int)<8 by omega);have x3:ix (.str (S "abwxnuvz")) (.int (w:Nat)) L=.ok (.str [(S "abwxnuvz").getD w 0]) L:=ll (i:=((w:Nat):Int)) (by omega) (show((w:Nat):Int)<8 by omega)
 unfold aN;simp_arith [eq,eb,x1,show 0<1+((q:Nat):Int) by omega,ea];simp_all_arith [show(1+((q:Nat):Int) - 1).toNat=q by omega,show S "m"=[109] from rfl,show(-4611686018427387904:Int)<=1+(q:Nat) - 1 by omega,show 1+((q:Nat):Int) - 1<=1000000 by omega,Ub];have hl:(109::Q7 q ((S "mQ7").getD b 0)).length=q+1:=by simp
 rw [Ic (i:=((a:Nat):Int)) (by omega) (by rw [hl];omega)];simp_all_arith [x2,R7];rw [Ie (i:=((a+1:Nat):Int)) (by omega) (by rw [hl];omega)];simp_arith [R7];rw [az (by simp only [QT,Sw,Ru,hl,QX,RO];unfold lim;omega)];have ci:∀(m j:Nat),(((m:Nat):Int) == ((j:Nat):Int))=decide (m=j):=fun m j=>by
  rw [R6,beq_iff_eq,decide_eq_true_eq];omega
 have c1:=ci st 1;have c2:=ci st 2
 have c3:=ci ld 1;have z:(y8 st (1+q) ((S "mQ7").getD b 0) a w k).length<=12:=(Bk.aQ (Bk.aV ((Cj (st:=st) (ld:=0) (sz:=1+q) (a:=a) (w:=w) (by omega) (by omega) Nr (by omega) (by omega)).1 k hk))).2
 have LZ:ld=1->(((ld:Nat):Int) == 1)=true:=fun e=>by rw [e];rfl
 have L9:ld≠1->(((ld:Nat):Int) == 1)=false:=fun e=>c3.trans (decide_eq_false e)
 have kq:(S "k" == S "Q")=false:=by decide
 have sk:S "k"=[107]:=rfl;have s1:st=1->(((st:Nat):Int) == 1)=true:=fun e=>by rw [e];rfl
 have Jd:st≠1->(((st:Nat):Int) == 1)=false:=fun e=>c1.trans (decide_eq_false e)
 have s2:st=2->(((st:Nat):Int) == 2)=true:=fun e=>by rw [e];rfl
 have Je:st≠2->(((st:Nat):Int) == 2)=false:=fun e=>c2.trans (decide_eq_false e)
 rw [show List.take a (109::Q7 q ((S "mQ7").getD b 0))++[fF.getD k 0]++List.drop (a+1) (109::Q7 q ((S "mQ7").getD b 0))=Fl (1+q) ((S "mQ7").getD b 0) a k by unfold Fl;rw [Nat.add_sub_cancel_left]];unfold Ib y8 at *
 by_cases e2:st=2
 ·have n1:st≠1:=by omega
  by_cases e:ld=1
  ·simp_all_arith [es,Jd n1,s2 e2,ew,x3,qt k (by omega),el,LZ e,sk,if_pos e,if_pos e2]
  ·simp_all_arith [es,Jd n1,s2 e2,ew,x3,qt k (by omega),el,L9 e,kq,if_neg e,if_pos e2]
 ·by_cases e1:st=1
  ·by_cases e:ld=1
   ·simp_all_arith [es,s1 e1,Je e2,Ub,show(-4611686018427387904:Int)<=(k:Nat) by omega,show((k:Nat):Int)<=1000000 by omega,R7,el,LZ e,sk,if_pos e,if_neg e2,if_pos e1]
   ·simp_all_arith [es,s1 e1,Je e2,Ub,show(-4611686018427387904:Int)<=(k:Nat) by omega,show((k:Nat):Int)<=1000000 by omega,R7,el,L9 e,kq,if_neg e,if_neg e2,if_pos e1]
  ·rw [if_neg e2,if_neg e1] at z
   by_cases e:ld=1
   ·simp_all_arith [es,Jd e1,Je e2,el,LZ e,sk,if_pos e,if_neg e2,if_neg e1]
   ·simp_all_arith [es,Jd e1,Je e2,el,L9 e,kq,if_neg e,if_neg e2,if_neg e1]
noncomputable def f0 (k:Cs):Fc:=⟨k,[]⟩
theorem Ma (k:Cs):fT (f0 k)=.tup [.str k,.tup []]:=rfl
structure Ig (p0 p1 la:Cs) (r:Rl):Prop where
 lk:r.aC=[]
 tl:r.tell=[]
 hd:∃k,(k=p0\/k=p1)/\((r.take=[f0 k]/\r.keep=[]/\r.put.length<=3/\∀g∈r.put,g=f0 p0\/g=f0 p1)\/(r.take=[]/\r.keep=[f0 k]/\(r.put=[]\/r.put=[f0 la])))
theorem P7 {x y:T} {i:Int} {L:aa} (h:0<=i/\i<2):ix (.lst [x,y]) (.int i) L=.ok (if i=0 then x else y) L:=by
 by_cases e:i=0
 ·rw [e,if_pos rfl];exact yk
 ·rw [show i=1 by omega,if_neg (by decide)];exact E3
theorem gO {α β:Type} (f:α->β):∀(l:List α) (acc:List β),l.foldl (fun acc k=>acc++[f k]) acc=acc++l.map f
 | [],acc=>(RP acc).symm
 | a::l,acc=>by rw [US,gO f l,Rn];rfl
theorem Bg {L:aa} {a b c e:T} {xs:List T} (h:fj L.length xs=true) (ha:lt L.length a=true:=by rfl) (hb:lt L.length b=true:=by rfl) (hc:lt L.length c=true:=by rfl) (he:lt L.length e=true:=by rfl):fin L (.tup [a,b,c,.ref L.length,e]) (.lst xs::L)=.ok (.tup [a,b,c,.lst xs,e]) L:=by
 have e0:(T.lst xs::L).drop ((T.lst xs::L).length - L.length)=L:=by simp
 have hr:bZ L.length (T.lst xs::L) 8 (.ref L.length)=some (.lst xs):=by
  unfold bZ;rw [if_neg (by simp [lt])];simp only [dy];unfold bZ;rw [if_pos (show lt L.length (.lst xs)=true by rw [lt];exact h)]
 have ho:∀{t:T},lt L.length t=true->bZ L.length (T.lst xs::L) 8 t=some t:=fun z=>by unfold bZ;rw [if_pos z]
 unfold fin;rw [e0,if_pos (gf L)];unfold bZ;rw [if_neg (by simp [lt,fj])];simp [Tw,hr,ho ha,ho hb,ho hc,ho he,lift]
theorem yI (ns:List Int) (n:Nat) (hn:n<=100) (p0 p1 la:Cs):∃r:Rl,Ig p0 p1 la r/\∀L,ba [.lst (ns.map .int),.int (n:Nat),.lst [.str p0,.str p1],.str la] L=.ok (xT r) L:=by
 obtain⟨d,hd,ed⟩:=jV ns n hn;have md:∀x:Int,0<=x % 2/\x % 2<2:=fun x=>⟨S4 _ (by decide),S6 _ (by decide)⟩
 let pk:Int->Cs:=fun i=>if i=0 then p0 else p1
 have Jf:∀i,pk i=p0\/pk i=p1:=fun i=>by
  show(if i=0 then p0 else p1)=p0\/(if i=0 then p0 else p1)=p1;split
  ·exact .inl rfl
  ·exact .inr rfl
 have Jg:∀(x:Int) (L:aa),ix (.lst [.str p0,.str p1]) (.int (x % 2)) L=.ok (.str (pk (x % 2))) L:=fun x L=>by
  rw [P7 (md x)];show R.ok (if x % 2=0 then T.str p0 else T.str p1) L=.ok (.str (if x % 2=0 then p0 else p1)) L
  split <;> rfl
 have h4:=S4 (d / 4) (show(4:Int)≠0 by decide);have h5:=S6 (d / 4) (show(0:Int)<4 by decide)
 by_cases c1:d / 2 % 2=0
 ·refine⟨⟨[],[f0 (pk (d % 2))],[],[],(RV (d / 4 % 4).toNat).map fun t=>f0 (pk (d / 16 / ((0:Int)+(t:Nat)+1) % 2)),[]⟩,⟨rfl,rfl,_,Jf _,.inl ⟨rfl,rfl,by simp;omega,fun g hg=>?_⟩⟩,fun L=>?_⟩
  ·obtain⟨t,_,rfl⟩:=Rj.mp hg
   exact(Jf _).imp (congrArg f0) (congrArg f0)
  ·unfold ba
   simp_arith [ed,Jg,show(d / 2 % 2 == 0)=true by rw [c1];rfl];rw [p8 (i:=0) (j:=d / 4 % 4) (L1:=.lst []::L) (L2:=.lst []::L) _ _ _ _ rfl (by simp_arith) ⟨gV (n:=0) (by decide),by unfold qG;omega⟩];simp_arith;generalize ho:forL _ _ _ _ _ _=o;obtain⟨z,w,rfl⟩:=qb (RV (d / 4 % 4 - 0).toNat) (fun t:Nat=>T.int ((0:Int)+(t:Nat))) (fun acc:List Fc=>.lst (acc.map fT)) (fun acc t=>acc++[f0 (pk (d / 16 / ((0:Int)+(t:Nat)+1) % 2))]) (fun q acc=>acc.length+q.length<=3/\∀t∈q,t<3)
    (fun z (w:Unit)=>[some (T.lst (T8 T.int ns)),some (T.int (n:Nat)),some (T.lst [T.str p0,T.str p1]),some (T.str la),some (T.int d),some (T.lst [T.tup [T.str (pk (d % 2)),T.tup []]]),some (T.ref (Th L)),z]) (s:=[]) (w:=()) ho (fun _=>trivial) (fun _ _ _=>rfl) ⟨by simp;omega,fun t ht=>by simp at ht;omega⟩ fun t q acc w h=>by
     have ht:=h.2 t QR;have h1:=h.1
     rw [QX] at h1;have hl:acc.length<lim:=by unfold lim;omega
     refine⟨⟨by simp;omega,fun x hx=>h.2 x (QV _ hx)⟩,(),?_⟩;simp_all_arith [Jg,show(0:Int)<0+(t:Nat)+1 by omega,show(0:Int)+(t:Nat)+1<1073741824 by omega,Rg,Ma]
   rw [gO,RQ,Int.sub_zero];simp_arith;exact Bg (gd (dY _) _)
 ·have e1:(d / 2 % 2 == 0)=false:=by simpa using c1
  by_cases c2:d / 4 % 4=0
  ·refine⟨⟨[],[],[f0 (pk (d % 2))],[],[],[]⟩,⟨rfl,rfl,_,Jf _,.inr ⟨rfl,rfl,.inl rfl⟩⟩,fun L=>?_⟩
   unfold ba;simp_arith [ed,Jg,e1,show(d / 4 % 4 == 0)=true by rw [c2];rfl];exact fin_same rfl
  ·refine⟨⟨[],[],[f0 (pk (d % 2))],[],[f0 la],[]⟩,⟨rfl,rfl,_,Jf _,.inr ⟨rfl,rfl,.inr rfl⟩⟩,fun L=>?_⟩
   unfold ba;simp_arith [ed,Jg,e1,show(d / 4 % 4 == 0)=false by simpa using c2];exact fin_same rfl
theorem yJ {B:Nat}:∀{ls:List Cs},(∀l∈ls,l.length<=B)->(ls.map (·.length)).sum<=ls.length * B
 | [],_=>by simp
 | a::r,h=>by
  have h1:=yJ (fun l hl=>h l (QV _ hl));have h2:=h a QR
  rw [Q4,List.sum_cons,QX,XC];have h1:(r.map (·.length)).sum<=r.length * B:=h1
  omega
theorem so {sep:Cs} {zs:List Cs} {t:T} {L:aa} {n B:Nat} (ht:vw L t=.lst (zs.map .str)) (hz:zs.length<=n) (hB:∀z∈zs,z.length<=B) (h:n * B+n * sep.length<=16777216):oM (.str sep) [t] L=.ok (.str (jn sep zs)) L:=by
 have:=yJ hB;have h1:=Vr B hz
 have h2:=Vr sep.length hz;have h3:=mapM_map (f:=Fp) (g:=T.str) (h:=id) (fun _=>rfl) zs
 unfold oM items;simp only [ht,Tr,h3,Wr];exact az (by omega)
theorem Bh (k:Cs) (L:aa):aG [fT (f0 k)] L=.ok (.str k) L:=by
 have he:sx (.tup []) (.tup []) L=.ok true L:=az ⟨rfl,rfl⟩;unfold aG;simp_arith [f0,he]
theorem tY {α:Type} (n:Nat) (l:List α) (g:α->Im) (h:n<5/\(l.map g).length<=3/\∀i∈l.map g,nZ i) (L:aa):bg [.str (wordAt n),.lst (l.map fun a=>.str (g a).tx)] L=.ok (.ref L.length) (.lst ((fQ (wordAt n) ((l.map g).map (·.tx))).map .str)::L):=by
 have hw:=(Bk.x6 h.1).2;have hl:∀m∈(l.map g).map (·.tx),m.length<=70:=fun m hm=>by
  obtain⟨i,hi,rfl⟩:=Rj.mp hm;exact(h.2.2 i hi).1
 have hr:=Bk.jf (sep:=[44,32]) hl;have hm:((l.map g).map (·.tx)).length<=3:=by rw [Lm9];exact h.2.1
 rw [show(l.map fun a=>T.str (g a).tx)=((l.map g).map (·.tx)).map .str by rw [Sb,Sb];rfl];generalize (l.map g).map (·.tx)=ms at hr hm hl;have fl:∀xs:List Cs,wV L (.ref L.length) (.lst (xs.map .str)::L)=.ok (.ref L.length) (.lst (xs.map .str)::L):=fun xs=>by
  unfold wV;simp only [dy];rw [az (Q3 _),rU,dZ (aW lt_str)];rfl
 have he:sx (.lst (ms.map .str)) (.lst []) L=.ok (decide (ms=[])) L:=by
  show a8 _ _=_;rw [az ⟨by show(ms.map T.str).all (dat 7)=true;exact fG (qa 6) ms,rfl⟩];cases ms <;> rfl
 unfold bg fQ uE;rw [if_pos (show [T.str (wordAt n),T.lst (ms.map T.str)].length=2 from rfl)];simp_arith [he];by_cases h0:ms=[]
 ·simp_arith [decide_eq_true h0]
  rw [if_pos h0];exact fl []
 ·simp_arith [decide_eq_false h0,Sn]
  rw [az (by unfold lim;omega)];simp_arith [show S ", "=[44,32] from rfl,so (t:=.lst (ms.map .str)) (L:=L) (sep:=[44,32]) rfl hm hl (by decide)];rw [az (by simp only [QT,QX,RO] at hr ⊢;unfold lim;omega)];simp_arith;rw [if_neg h0,Rn];exact fl [_]
theorem gy (w:Cs) (m:List Cs):(fQ w m).length<=1:=by
 unfold fQ;split <;> simp
theorem u3 {A L:aa} {c:T}:at_ (A++c::L) L.length=some c:=by
 induction A with
 | nil=>exact dy
 | cons a A ih =>
  show at_ (a::(A++c::L)) _=_
  unfold at_
  rw [if_neg (by simp;omega)];exact ih
theorem Ih {A L:aa} {c d:T}:put (A++c::L) L.length d=A++d::L:=by
 induction A with
 | nil=>exact rU
 | cons a A ih =>
  show put (a::(A++c::L)) _ _=_;unfold put;rw [if_neg (by simp;omega),ih];rfl
theorem iZ {α:Type} {n:Nat} {l:List α} {g:α->Im} (h:n<5/\(l.map g).length<=3/\∀i∈l.map g,nZ i) {A L L0:aa} {xs:List Cs} {φ:Fr} {e:SE} (h0:L0=A ++ .lst (xs.map .str)::L) (hv:φ[2]?=some (some (.ref L.length))) (hl:xs.length<=10) (he:∀L,e φ L=.ok (.lst (l.map fun a=>.str (g a).tx)) L):aug .Add 2 (af bg [c (.str (wordAt n)),e]) φ L0=.nx (φ.set 2 (some (.ref L.length))) ((.lst ((fQ (wordAt n) ((l.map g).map (·.tx))).map .str)::A) ++ .lst ((xs++fQ (wordAt n) ((l.map g).map (·.tx))).map .str)::L):=by
 subst h0;have h1:=gy (wordAt n) ((l.map g).map (·.tx))
 have ha:∀p:List Cs,p.length<=1->ag .Add (.ref L.length) (.ref (A++T.lst (xs.map .str)::L).length) (.lst (p.map .str)::(A ++ .lst (xs.map .str)::L))=.ok (.ref L.length) ((.lst (p.map .str)::A) ++ .lst ((xs++p).map .str)::L):=fun p hp=>by
  have e1:at_ (T.lst (p.map .str)::(A ++ .lst (xs.map .str)::L)) L.length=some (.lst (xs.map .str)):=u3 (A:=.lst (p.map .str)::A)
  unfold ag;simp only [fc,dy,dX,e1];rw [az (by simp only [Lm9];unfold lim;omega),<- Rg];exact congrArg (R.ok _) (Ih (A:=.lst (p.map .str)::A))
 simp only [B3,Hj,FI,hv,S8,cm,ao,pS,jd,lj,K6,he,tY n l g h,ha _ h1,of_ok]
theorem oA {fs:List Fc} (h:∀f∈fs,f.as=[]) (hl:fs.length<=10) {s:SI} {aA:List (Option Nat)} {φ:Fr} {L:aa} {k:aa->Prop} {r:R T} (hc:comp true s aA (.one 1) yes (af aG [v 1]) φ L=r) (hs:s φ L=.ok (fs.map fT,k) L) (hk:k L) (hv:∀x,((inner aA φ).set 1 (some x))[1]?=some (some x)) :
  r=.ok (.lst (fs.map fun f=>.str (fI f).tx)) L:=by
 rw [cV hc fs fT (fun f=>.str (fI f).tx) hs hk (by unfold lim;omega) fun f hf=>by
  simp only [pS,jd,lj,FI,hv,S8,cm,ao];have e:=h f hf
  obtain⟨k,as⟩:=f;subst e;exact Bh k L]
 rfl
theorem tZ {ks:List Kd} {r:Rl} (H:oG ks r) (h0:∀f∈r.take++r.keep++r.put,f.as=[]) (hk:r.aC=[]) (ht:r.tell=[]) (L:aa):bw [.str r.title,xT r] L=.ok (.str (bO r)) L:=by
 obtain⟨f1,f2,f3,f4,f5⟩:=H.qz;have row:=H.row
 have z1:=(aQ (Bk.aV H.t)).2;have gt:∀f∈r.take,f.as=[]:=fun f h=>h0 f (Q8 _ (Q8 _ h))
 have gk:∀f∈r.keep,f.as=[]:=fun f h=>h0 f (Q8 _ (Rv _ h))
 have gp:∀f∈r.put,f.as=[]:=fun f h=>h0 f (Rv _ h)
 have c1:=gy (wordAt 0) ((r.take.map fI).map (·.tx));have c2:=gy (wordAt 1) ((r.keep.map fI).map (·.tx))
 have c3:=gy (wordAt 2) ((r.aC.map lI).map (·.tx));have c4:=gy (wordAt 3) ((r.put.map fI).map (·.tx))
 have q0:=tY 0 r.take fI (row _ (.head _));unfold bw;rw [mR,if_pos (show [T.str r.title,xT r].length=2 from rfl)];simp only [Q4,UP,Tt,RQ,Xu,Q7];rw [bD,xU,pS,jd,K6,ao,jd];rw [oA (fs:=r.take) gt (by omega) rfl (by exact rfl) (by exact sv) (by exact fun _=>rfl),ao,lj,ao,ao,ao,show S "take"=wordAt 0 from rfl,q0];simp only [of_ok,Tg.set,VR,VS,aY];rw [bD,show S "keep"=wordAt 1 from rfl,iZ (n:=1) (A:=[]) (L:=L) (l:=r.keep) (g:=fI) (row _ (.tail _ (.head _))) (by exact rfl) (by exact rfl) (by omega) fun L'=>oA (fs:=r.keep) gk (by omega) rfl (by exact rfl) (by exact sv) (by exact fun _=>rfl),aY];rw [bD,show S "look"=wordAt 2 from rfl,iZ (n:=2) (A:=[_]) (L:=L) (l:=r.aC) (g:=lI) (row _ (.tail _ (.tail _ (.head _)))) (by exact rfl) (by exact rfl) (by simp only [QT];omega) fun L'=>by
  rw [cV rfl r.aC Cb (fun k=>.str (lI k).tx) (by exact rfl) (by exact sv) (by unfold lim;omega) (by exact fun k h=>by rw [hk] at h;cases h)];rfl,aY]
 rw [bD,show S "put"=wordAt 3 from rfl,iZ (n:=3) (A:=[_,_]) (L:=L) (l:=r.put) (g:=fI) (row _ (.tail _ (.tail _ (.tail _ (.head _))))) (by exact rfl) (by exact rfl) (by simp only [QT];omega) fun L'=>oA (fs:=r.put) gp (by omega) rfl (by exact rfl) (by exact sv) (by exact fun _=>rfl),aY];rw [bD,show S "tell"=wordAt 4 from rfl,iZ (n:=4) (A:=[_,_,_]) (L:=L) (l:=r.tell) (g:=pI) (row _ (.tail _ (.tail _ (.tail _ (.tail _ (.head _)))))) (by exact rfl) (by exact rfl) (by simp only [QT];omega) fun L'=>by
  rw [cV rfl r.tell pT (fun k=>.str (pI k).tx) (by exact rfl) (by exact sv) (by unfold lim;omega) (by exact fun k h=>by rw [ht] at h;cases h)];rfl,aY]
 have hz:_++(_++(_++(_++(_++[]))))=(fP r).map dP:=Bk.pZ (rows r);simp only [RP,<- Rn] at hz;rw [hz];obtain⟨zl,zb⟩:=H.parts;have zj:=Ra (Bk.jf (sep:=[59,32]) zb) (Vr 232 zl)
 generalize [T.lst (T8 T.str (fQ (wordAt 4) (T8 (fun x=>x.tx) (T8 pI r.tell)))),T.lst (T8 T.str (fQ (wordAt 3) (T8 (fun x=>x.tx) (T8 fI r.put)))),T.lst (T8 T.str (fQ (wordAt 2) (T8 (fun x=>x.tx) (T8 lI r.aC)))),T.lst (T8 T.str (fQ (wordAt 1) (T8 (fun x=>x.tx) (T8 fI r.keep))))]=A;have hj:=so (t:=.ref L.length) (L:=A++T.lst (((fP r).map dP).map .str)::L) (sep:=[59,32]) (zs:=(fP r).map dP) (by rw [fc,u3];rfl) zl zb (by decide)
 have hu:vw (A++T.lst (((fP r).map dP).map .str)::L) (.ref L.length)=.lst (((fP r).map dP).map .str):=by rw [fc,u3];rfl
 simp_all_arith [show S "rule "=Bk.eL++[32] from rfl,show S ": "=[58,32] from rfl,show S "; "=[59,32] from rfl,hj];rw [show A++T.lst (((fP r).map dP).map .str)::L=(A++[T.lst (((fP r).map dP).map .str)])++L by simp,iO (by rfl)];simp [bO]
theorem Bi (ks:List Kd) (hk:∀k∈ks,av k.n=true/\k.c<=4) (h4:ks.length<=4) (rs:List Rl) (h2:rs.length=2) (N:Int) (nm:Nat->Cs) (hN:∀k<3,∀L,aN [.int N,.int (k:Nat),.str (S "k")] L=.ok (.str (nm k)) L) (hT:∀(i:Nat) r,rs[i]?=some r->oG ks (bf r (nm i))/\(∀f∈r.take++r.keep++r.put,f.as=[])/\r.aC=[]/\r.tell=[]) (n:Nat) (L:aa) (hx:at_ L n=some (.lst (ks.map kT))) :
  bx [.ref n,.lst (rs.map xT),.int N] L=.ok (.str (jn [10] (ks.map aq++rs.zipIdx.map fun p=>bO (bf p.1 (nm p.2))))) L:=by
 have hn:n<L.length:=dN hx;have hs:∀a b:T,stays (.ref n) (a::L) (b::L):=fun a b m e=>by
  cases e;unfold at_
  rw [if_neg (by omega),if_neg (by omega)]
 unfold bx;simp_arith [show at_ (T.lst []::L) n=some (.lst (ks.map kT)) from ip hx];generalize ho:forL _ _ _ _ _ _=o;obtain⟨o3,o4,rfl⟩:=qb ks kT (fun acc=>.lst (acc.map .str)) (fun acc k=>acc++[aq k]) (fun r acc=>acc.length+r.length<=4/\∀k∈r,av k.n=true/\k.c<=4) (fun z (w:Unit)=>[some (.ref n),some (.lst (rs.map xT)),some (.int N),some (.ref L.length),z,none]) (s:=[]) (w:=()) ho (fun _=>hs _ _) (fun _ _ _=>rfl) ⟨by simpa using h4,hk⟩ fun k r acc w h=>by
  have hk:=h.2 k QR;have hl:=(aQ (Bk.aV hk.1)).2
  have h1:=h.1;rw [QX] at h1;have hd:acc.length<lim:=by unfold lim;omega
  refine⟨⟨by rw [QT,Sn];omega,fun g hg=>h.2 g (QV _ hg)⟩,?_⟩;simp_all_arith [qt k.c hk.2,show S "lasting "=Bk.bT++[32] from rfl,show S "passing "=Bk.bS++[32] from rfl];cases Nt:k.l with
  | true =>
   simp_all_arith [qt k.c hk.2];exact⟨(),by simp [aq,Nt]⟩
  | false =>
   simp_all_arith [qt k.c hk.2];exact⟨(),by simp [aq,Nt]⟩
 rw [gO,RQ];simp_arith;obtain⟨r0,r1,rfl⟩:∃r0 r1,rs=[r0,r1]:=by
  match rs,h2 with
  | [a,b],_=>exact⟨a,b,rfl⟩
 have rr:∀t<2,∃r,[r0,r1][t]?=some r:=fun t ht=>⟨_,Ge9 (by simpa using ht)⟩
 have g0:=hT 0 r0 rfl;have g1:=hT 1 r1 rfl
 let tx:Nat->Cs:=fun t=>if t=0 then bO (bf r0 (nm 0)) else bO (bf r1 (nm 1))
 have ht:∀t<2,∀L,∃x,ix (.lst [xT r0,xT r1]) (.int ((0:Int)+(t:Nat))) L=.ok x L/\∀L,bw [.str (nm t),x] L=.ok (.str (tx t)) L:=fun t ht L=>by
  rcases(by omega:t=0\/t=1) with rfl|rfl
  ·exact⟨xT r0,yk,fun L=>tZ g0.1 g0.2.1 g0.2.2.1 g0.2.2.2 L⟩
  ·exact⟨xT r1,E3,fun L=>tZ g1.1 g1.2.1 g1.2.2.1 g1.2.2.2 L⟩
 rw [p8 (i:=0) (j:=2) (L1:=.lst ((ks.map aq).map .str)::L) (L2:=.lst ((ks.map aq).map .str)::L) _ _ _ _ rfl (by simp_arith;rfl) ⟨gV (n:=0) (by decide),gV (n:=2) (by decide)⟩];simp_arith;generalize ho:forL _ _ _ _ _ _=o;obtain⟨o5,o6,rfl⟩:=qb (RV ((2:Int) - 0).toNat) (fun t:Nat=>T.int ((0:Int)+(t:Nat))) (fun acc=>.lst (acc.map .str)) (fun acc t=>acc++[tx t]) (fun q acc=>acc.length+q.length<=6/\∀t∈q,t<2) (fun z (w:Unit)=>[some (.ref n),some (.lst ([r0,r1].map xT)),some (.int N),some (.ref L.length),o3,z]) (s:=ks.map aq) (w:=()) ho (fun _=>trivial) (fun _ _ _=>rfl) ⟨by simp;omega,fun t ht=>by simpa using ht⟩ fun t q acc w h=>by
  have h1:=h.1;rw [QX] at h1;have hd:acc.length<lim:=by unfold lim;omega
  have h3:=h.2 t QR;obtain⟨x,e1,e2⟩:=ht t h3 (.lst (acc.map .str)::L);have e3:=hN t (by omega)
  rw [show((t:Nat):Int)=(0:Int)+(t:Nat) by omega] at e3;refine⟨⟨by rw [QT,Sn];omega,fun g hg=>h.2 g (QV _ hg)⟩,(),?_⟩;simp_all_arith [e3,e1,e2,Rg]
 rw [gO,show(RV ((2:Int) - 0).toNat).map tx=[r0,r1].zipIdx.map fun p=>bO (bf p.1 (nm p.2)) from rfl];have hj:=so (t:=.ref L.length) (L:=.lst ((ks.map aq++[r0,r1].zipIdx.map fun p=>bO (bf p.1 (nm p.2))).map .str)::L) (sep:=S "\n") (zs:=ks.map aq++[r0,r1].zipIdx.map fun p=>bO (bf p.1 (nm p.2))) (n:=6) (B:=1300) (by rw [fc,dy];rfl) (by simp;omega) (fun l h=>by
   rcases RB.mp h with h|h
   ·obtain⟨k,hm,rfl⟩:=Rj.mp h
    exact Ra (Bk.jg (hk k hm)).2 (by decide)
   ·have h:l=bO (bf r0 (nm 0))\/l=bO (bf r1 (nm 1)):=by simpa using h
    rcases h with rfl|rfl
    ·exact g0.1.line.2
    ·exact g1.1.line.2) (by decide)
 simp_arith [hj];exact dZ rfl
section
variable {s:SI} {aA:List (Option Nat)} {tg:Tg} {ts:ST} {m:SE} {φ:Fr} {L:aa} {k:aa->Prop} {fz:Bool}
theorem sq (hs:s φ L=.ok ([],k) L) (hk:k L):comp fz s aA tg ts m φ L=mk fz (.lst []) L:=by
 rw [comp,hs,ao,compLoop,if_pos hk];rfl
theorem Bj {i:Nat} {x y:T} {b:Bool} (hs:s φ L=.ok ([x],k) L) (hk:k L) (ht:ts ((inner aA φ).set i (some x)) L=.ok b L) (hm:b=true->m ((inner aA φ).set i (some x)) L=.ok y L):comp fz s aA (.one i) ts m φ L=mk fz (.lst (if b=true then [y] else [])) L:=by
 rw [comp,hs,ao,compLoop,if_pos ⟨hk,by decide⟩];cases b with
 | true=>simp only [Tg.set,ht,ao,if_true,hm rfl,compLoop,if_pos hk,RQ]
 | false=>simp only [Tg.set,ht,ao,compLoop,if_pos hk,QW,if_false]
theorem u4 {x:T}:stays x L L:=fun _ _=>rfl
theorem ax {e:SE} {x:T} (hm:e φ L=.ok x L) (hi:items x L=some []):comp fz (src e) aA tg ts m φ L=mk fz (.lst []) L:=sq (k:=stays x L) (by rw [tH,hm,ao,hi]) u4
theorem t4 {e:SE} {x:T} (hm:e φ L=.ok x L) (hi:vw L x=.lst []):comp fz (zf e) aA tg ts m φ L=mk fz (.lst []) L:=sq (k:=stays x L) (by rw [B0,hm,ao,hi];rfl) u4
theorem br {e:SE} {i:Nat} {x y z:T} {b:Bool} (hm:e φ L=.ok z L) (hi:items z L=some [x]) (ht:ts ((inner aA φ).set i (some x)) L=.ok b L) (he:b=true->m ((inner aA φ).set i (some x)) L=.ok y L):comp fz (src e) aA (.one i) ts m φ L=mk fz (.lst (if b=true then [y] else [])) L:=Bj (k:=stays z L) (by rw [tH,hm,ao,hi]) u4 ht he
theorem ie {f:Str} {t d:T} {c:Str} {fs:List (Str × T)} (hm:m φ (d :: .obj c fs::L)=.ok t (d :: .obj c fs::L)) (hv:φ[0]?=some (some (.ref L.length))) (hl:fs.length<200) (hn:(fs.map (·.1)).contains f=false):dM (v 0) f m φ (d :: .obj c fs::L)=.nx φ (d :: .obj c (fs++[(f,t)])::L):=by
 rw [xV,hm,of_ok,FI,hv];simp only [S8,cm,of_ok,oK,n7,if_pos hl,A8,bA hn]
end
theorem fe (x:T) (k:Cs) (L:aa):bz [x,fT (f0 k)] L=.ok (fT (f0 k)) L:=by
 unfold bz;simp_arith;rw [ax (x:=.tup []) (by simp_arith;rfl) rfl];simp_arith;exact fin_same rfl
theorem t5 {rs:List Rl} {i:Nat} {r:Rl} (h:rs[i]?=some r) (L:aa):ix (.lst (rs.map aB)) (.int (i:Nat)) L=.ok (aB r) L:=eK (by rw [Rd,h];rfl)
theorem oB (ks:List Kd) (h:ks.length<=4) {s:SI} {aA:List (Option Nat)} {φ:Fr} {L:aa} {r:R T} {k:aa->Prop} (hc:comp true s aA (.one 1) (tv (vi 1 2)) (vi 1 0) φ L=r) (hs:s φ L=.ok (ks.map kT,k) L) (hk:k L) (hv:∀x,((inner aA φ).set 1 (some x))[1]?=some (some x)):r=.ok (.lst ((bV ks).map .str)) L:=by
 rw [lz hc ks kT (·.l) (fun k=>.str k.n) hs hk (by unfold lim;omega) (fun b _=>by simp only [Hk,E8,hv,S8,cm,ao,Ni]) (fun b _ _=>by simp only [E8,hv,S8,cm,ao,Nh])];have:((ks.filter (·.l)).map fun k=>T.str k.n)=(bV ks).map T.str:=by simp [bV]
 rw [this];rfl
noncomputable def aO (i:Nat) (k:Cs) (t:Nat):T:=.obj "Side" [("number",.int (i:Nat)),("names",.lst []),("passing",.lst [fT (f0 k)]),("lasting",.lst []),("takes",.int (t:Nat)),("same",.lst []),("unlike",.lst [])]
structure Hd (ks:List Kd) (r:Rl) (k:Cs):Prop where
 h:r.take++r.keep=[f0 k]
 n:k∉bV ks
 lk:r.aC=[]
theorem i8 {r:Rl} (h:r.aC=[]) (w:Cs) (x:T) (L:aa):cE [aB r,.str w,x] L=.ok (.lst []) L:=by
 unfold cE;simp_arith [h];rw [ax (x:=.lst []) (by simp_arith [h]) rfl];simp_arith;rw [ax (x:=.lst []) (by simp_arith) rfl];simp_arith;exact fin_same rfl
theorem yK {ks:List Kd} {rs:List Rl} {i:Nat} {r:Rl} {k:Cs} (h4:ks.length<=4) (hr:rs[i]?=some r) (H:Hd ks r k) (w:Cs) (L:aa):og [cQ ks rs,.int (i:Nat),.str w] L=.ok (aO i k r.take.length) L:=by
 have ho:opens (r.take++r.keep)=[]:=by rw [H.h];rfl
 have hh:r.take.map fT++r.keep.map fT=[fT (f0 k)]:=by rw [<- Rg,H.h];rfl
 have hd:∀L:aa,bK [.lst []] L=.ok (.ref L.length) (.ah []::L):=fun L=>by
  show sC [] L=_;exact az ⟨rfl,by decide⟩
 unfold og make gg;rw [mR,if_pos (show [T.ref L.length,cQ ks rs,.int (i:Nat),.str w].length=4 from rfl)];simp only [Q4,UP,Tt,RQ,Xu,Q7];rw [bD];simp_arith [t5 hr];rw [oB ks h4 rfl (by exact rfl) (by exact sv) (by exact fun _=>rfl)];simp_arith;rw [t4 (x:=.lst []) (by simp_arith [ho]) rfl];simp_arith [hd];have hf:decide ((f0 k).k∈bV ks)=false:=decide_eq_false H.n
 rw [br (z:=.lst [fT (f0 k)]) (x:=fT (f0 k)) (y:=fT (f0 k)) (b:=true) (by simp_arith [hh]) rfl rfl (by exact fun _=>by simp_arith [fe])];simp only [mk,if_true,of_ok,aY];rw [bD,ie (t:=.int (i:Nat)) (by simp_arith) rfl (by decide) rfl,aY];rw [bD,ie (t:=.lst []) (by rw [ax (x:=.lst []) (by simp_arith [ho]) rfl];rfl) rfl (by simp) rfl,aY];rw [bD,ie (t:=.lst [fT (f0 k)]) (by rw [br (b:=true) (z:=.lst [fT (f0 k)]) (x:=fT (f0 k)) (y:=fT (f0 k)) (by simp_arith) rfl (by simp_arith [hf]) (by exact fun _=>by simp_arith)];rfl) rfl (by simp) rfl,aY];rw [bD,ie (t:=.lst []) (by rw [br (b:=false) (z:=.lst [fT (f0 k)]) (x:=fT (f0 k)) (y:=fT (f0 k)) (by simp_arith) rfl (by simp_arith [hf]) (by exact fun h=>nomatch h)];rfl) rfl (by simp) rfl,aY];rw [bD,ie (t:=.int (r.take.length:Nat)) (by simp_arith) rfl (by simp) rfl,aY];rw [bD,ie (t:=.lst []) (by simp_arith [i8 H.lk]) rfl (by simp) rfl,aY];rw [bD,ie (t:=.lst []) (by simp_arith [i8 H.lk]) rfl (by simp) rfl,aY,rQ];simp only [RQ,Tt];have e:fin (.obj "Side" []::L) .bj ([.ah []]++aO i k r.take.length::L)=.ok .bj (aO i k r.take.length::L):=yt rfl (Cf (by simp [aO,lt,jG,fj,dY])) rfl
 rw [Uj] at e;rw [show T.obj "Side" [("number",T.int (i:Nat)),("names",T.lst []),("passing",T.lst [fT (f0 k)]),("lasting",T.lst []),("takes",T.int (r.take.length:Nat)),("same",T.lst []),("unlike",T.lst [])]=aO i k r.take.length from rfl,e];exact cf (by simp [aO,lt,jG,fj,dY])
section
variable {i t:Nat} {a:Cs} {L:aa}
theorem Jh:fld "number" (aO i a t) L=.ok (.int (i:Nat)) L:=rfl
theorem yL:fld "names" (aO i a t) L=.ok (.lst []) L:=rfl
theorem Ii:fld "passing" (aO i a t) L=.ok (.lst [fT (f0 a)]) L:=rfl
theorem P8:fld "lasting" (aO i a t) L=.ok (.lst []) L:=rfl
theorem P9:fld "takes" (aO i a t) L=.ok (.int (t:Nat)) L:=rfl
theorem Qa:fld "same" (aO i a t) L=.ok (.lst []) L:=rfl
theorem Nu:fld "unlike" (aO i a t) L=.ok (.lst []) L:=rfl
end
section
variable {k:aa->Prop} {tg:Tg} {b:SS} {φ:Fr} {L:aa} {o:O}
theorem jw (ho:forL k tg b [] φ L=o) (hk:k L):o=.nx φ L:=by rw [<- ho,forL,if_pos hk]
theorem g6 {x:T} {φ1 φ2:Fr} {L2:aa} (ho:forL k tg b [x] φ L=o) (hk:k L) (h1:tg.set x φ=some φ1) (hb:b φ1 L=.nx φ2 L2) (lK:k L2):o=.nx φ2 L2:=by
 rw [<- ho,forL,if_pos hk];simp only [h1,hb,forL,if_pos lK]
end
theorem t6 {s:SI} {aA:List (Option Nat)} {tg:Tg} {ts:ST} {m:SE} {φ ψ:Fr} {L:aa} {k:aa->Prop} {fz:Bool} {x y:T} {b:Bool} (hs:s φ L=.ok ([x],k) L) (hk:k L) (h1:tg.set x (inner aA φ)=some ψ) (ht:ts ψ L=.ok b L) (hm:b=true->m ψ L=.ok y L):comp fz s aA tg ts m φ L=mk fz (.lst (if b=true then [y] else [])) L:=by
 rw [comp,hs,ao,compLoop,if_pos ⟨hk,by decide⟩];cases b with
 | true=>simp only [h1,ht,ao,if_true,hm rfl,compLoop,if_pos hk,RQ]
 | false=>simp only [h1,ht,ao,compLoop,if_pos hk,QW,if_false]
theorem Fm {j:Int} {L:aa}:jy (.int j) (.lst []) L=.ok false L:=az ⟨rfl,rfl⟩
theorem Fo (j u:Nat) (a b:Cs) (L:aa):cF [aO j b u,fT (f0 a),.lst []] L=.ok (.lst (if (b == a)=true then [.int 0] else [])) L:=by
 unfold cF;simp_arith;rw [ax (x:=.lst []) (by simp_arith) rfl];simp_arith;rw [t6 (x:=.tup [.int 0,fT (f0 b)]) (y:=.int 0) (b:=b == a) (k:=stays (.lst [fT (f0 b)]) L) (by simp_arith [Ii];rfl) u4 rfl (by
  simp_arith [Fm];cases h:(f0 b).k == (f0 a).k with
  | true=>simp_arith;exact congrArg (R.ok · L) (show true=(b == a) from h.symm)
  | false=>simp_arith;exact congrArg (R.ok · L) (show false=(b == a) from h.symm)) (by exact fun _=>by simp_arith)]
 simp_arith;exact fin_same (by split <;> rfl)
theorem Ij (i j t u:Nat) (a b:Cs) (L:aa):d6 [aO i a t,aO j b u,.tup [.int 0,.int 0]] L=.ok (.bl (decide (0<t) || decide (0<u))) L:=by
 have e:∀n:Nat,decide ((0:Int)<(n:Nat))=decide (0<n):=fun n=>decide_eq_decide.mpr (by omega)
 unfold d6;simp_arith [P9,e];cases decide (0<t) <;> simp_arith <;> rfl
noncomputable def qv:T:=.lst [.tup [.int 0,.int 0]]
theorem Mb {fz:Bool} {a b:List T} {L:aa}:aH fz .Add (.lst a) (.ref L.length) (.lst b::L)=fk fz (a++b) (.lst b::L):=by
 unfold aH;rw [show vw (.lst b::L) (.ref L.length)=.lst b by rw [fc,dy];rfl];rfl
theorem Qb:((0:Nat):Int)=0:=rfl
theorem Bl (i j t u:Nat) (a b:Cs) (L:aa):d7 [aO i a t,aO j b u] L=.ok (.lst (if (b == a)=true/\(decide (0<t) || decide (0<u))=true then [qv] else [])) L:=by
 unfold d7;simp_arith [Ii,num,Qb];generalize ho:forL _ _ _ _ _ _=o;have h:∀xs:List T,(if (b == a)=true then [qv] else [])=xs->o=.nx [some (aO i a t),some (aO j b u),some (.lst (.lst []::xs)),some (.int 0),some (fT (f0 a)),some (.ref L.length),some (.lst [])] (.lst xs::L):=fun xs hx=>by
  have hl:xs.length<=1:=by rw [<- hx];split <;> simp
  refine g6 ho sv rfl ?_ sv;simp_arith;generalize wR:forL _ _ _ _ _ _=o2;obtain rfl:=g6 (φ2:=[some (aO i a t),some (aO j b u),some (.lst [.lst []]),some (.int 0),some (fT (f0 a)),some (.ref L.length),some (.lst [])]) (L2:=.lst xs::L) wR sv rfl (by
   have hc:comp true (src (af cF [v 1,v 4,v 6])) [none,none,some 6,some 3] (.one 1) yes (b2 (v 2) (lst true [tup [v 3,v 1]]) (aH true .Add)) [some (aO i a t),some (aO j b u),some (.lst [.lst []]),some (.int 0),some (fT (f0 a)),some (.ref L.length),some (.lst [])] (.lst []::L)=.ok (.lst xs) (.lst []::L):=by
    have hp:=Fo j u a b (.lst []::L);cases h:b == a with
    | true =>
     rw [h] at hx hp;rw [br (z:=.lst [.int 0]) (x:=.int 0) (y:=qv) (b:=true) (by simp_arith [hp]) rfl rfl (by exact fun _=>by simp_arith;rfl),<- hx];rfl
    | false =>
     rw [h] at hx hp;rw [ax (x:=.lst []) (by simp_arith [hp]) rfl,<- hx];rfl
   simp_arith [hc];rw [iY (.inl rfl) (by simp only [RO];unfold lim;omega)];simp_arith) sv
  simp_all_arith [Mb]
 obtain rfl:=h _ rfl;simp_arith;have hh:=Ij i j t u a b (.lst (if (b == a)=true then [qv] else [])::L)
 cases h:b == a with
 | false =>
  simp_arith;rw [br (z:=.lst [.lst []]) (x:=.lst []) (y:=.lst []) (b:=false) (by simp_arith) rfl (by simp_arith;rw [ax (x:=.lst []) (by simp_arith) rfl];simp_arith;rfl) (by exact fun h=>nomatch h)];simp_arith;rw [if_neg (fun z=>nomatch z.1)];exact dZ rfl
 | true =>
  rw [h] at hh;simp only [if_true] at hh ⊢;rw [lz rfl [false,true] (fun c=>if c=true then qv else .lst []) (fun c=>c && (decide (0<t) || decide (0<u))) (fun c=>if c=true then qv else .lst []) (by exact rfl) (by exact sv) (by decide) (by
   exact fun c _=>by
    cases c with
    | false =>
     simp_arith;rw [ax (x:=.lst []) (by simp_arith) rfl];simp_arith;rfl
    | true =>
     simp_arith;rw [br (z:=qv) (x:=.tup [.int 0,.int 0]) (y:=.bl (decide (0<t) || decide (0<u))) (b:=true) (by simp_arith) rfl rfl (by exact fun _=>by simp_arith [hh])];simp_arith;rw [show m4 [.lst [.bl (decide (0<t) || decide (0<u))]] (.lst [qv]::L)=.ok (.bl (decide (0<t) || decide (0<u))) (.lst [qv]::L) by cases (decide (0<t) || decide (0<u)) <;> rfl];simp_arith) (by exact fun c _ _=>by cases c <;> simp_arith)]
  cases (decide (0<t) || decide (0<u)) with
  | false=>simp_arith;exact dZ rfl
  | true=>simp_arith;exact dZ rfl
theorem t8 (l:List T) (h:l.length<=1):oC l=l:=by
 unfold oC;split
 ·rename_i ex
  have p:=(WV ex).1
  match l,h with
  | [],_=>exact List.perm_nil.mp p
  | [x],_=>exact List.perm_singleton.mp p
 ·rfl
theorem yM (L:aa):d5 [qv] L=.ok (.bl false) L:=by
 have e:jq true [.lst [.tup [.int 0,.int 0]]] L=.ok (.lst [.tup [.int 0,.int 0]]) L:=by
  show a8 _ (fk true (oC [.tup [.int 0,.int 0]]) L)=_;rw [az ⟨by decide,by decide,.inr (by decide),by decide⟩,t8 _ (by decide)];exact az (by decide)
 unfold d5 qv;simp_arith;rw [br (z:=qv) (x:=.tup [.int 0,.int 0]) (y:=.tup [.int 0,.int 0]) (b:=true) (by simp_arith;rfl) rfl rfl (by exact fun _=>by simp_arith)];simp_arith [e];rw [az ⟨by decide,by decide,by decide⟩];simp_arith
theorem Bm (x:T) (L:aa):gj [x,.lst []] L=.ok .bj L:=by
 unfold gj;simp_arith;generalize ho:forL _ _ _ _ _ _=o;obtain rfl:=jw ho sv;simp_arith
theorem yN (i j t u:Nat) (a b:Cs) (L:aa):cH [aO i a t,aO j b u,qv] L=.ok (.ah []) L:=by
 have hz:∀L,ph true [.tup [],.tup []] L=.ok (.lst []) L:=fun L=>by show fk true [] L=_;exact az (by decide)
 unfold cH;simp_arith [yL,Qa,Bm,qv];generalize ho:forL _ _ _ _ _ _=o;obtain rfl:=g6 (φ2:=[some (aO i a t),some (aO j b u),some qv,some (.ref L.length),some (.lst []),some (.tup [.int 0,.int 0]),none]) (L2:=.ah []::L) ho sv rfl (by
  simp_arith [Ii,hz,f0];rfl) sv
 simp_arith;generalize ho:forL _ _ _ _ _ _=o;obtain rfl:=jw ho sv;simp_arith;exact cf rfl
theorem Bn (L:aa):sC [] L=.ok (.ref L.length) (.ah []::L):=az ⟨rfl,by decide⟩
theorem Ik (L:aa):bK [.lst []] L=.ok (.ref L.length) (.ah []::L):=Bn L
theorem u5 (L:aa):gK [.lst []] L=.ok (.lst []) L:=by
 unfold gK;simp_arith;rw [ax (x:=.lst []) (by simp_arith) rfl];simp_arith [Ik];rw [show dm true [.ref L.length] (.ah []::L)=.ok (.lst []) (.ah []::L) by
  unfold dm;simp only [fc,dy,dX];exact az (by decide)]
 simp_arith;exact dZ rfl
theorem qw (L:aa):d9 [.lst []] L=.ok (.ah []) L:=by
 unfold d9;simp_arith;rw [t4 (x:=.lst []) (by simp_arith) rfl];simp_arith [Ik];exact cf rfl
theorem lJ (x:T) (L:aa):bP [x,.ah []] L=.ok (.ah []) L:=by
 unfold bP;simp_arith;rw [sq (k:=stays (.ah []) L) (by simp_arith) u4];simp_arith [Ik];exact cf rfl
theorem Il {kk:ST} {b:SS} {φ:Fr} {L:aa} (h:kk φ L=.ok false L):lO kk b lim φ L=.nx φ L:=by
 rw [show lim=16777215+1 from rfl,lO,h,of_ok];rfl
theorem qx (L:aa):eg [.lst [],.int 0] L=.ok (.lst []) L:=by
 unfold eg;simp_arith;rw [Il (by simp_arith;rfl)];simp_arith;exact cf rfl
theorem u6 (L:aa):cG [.lst [],.int 0] L=.ok (.lst [.lst []]) L:=by
 unfold cG;simp_arith [qx];rw [p8 (i:=0) (j:=0) (L1:=L) (L2:=L) _ _ _ _ rfl (by simp_arith) ⟨gV (n:=0) (by decide),gV (n:=0) (by decide)⟩];simp_arith;generalize ho:forL _ _ _ _ _ _=o;obtain rfl:=jw ho trivial;simp_arith;rw [br (z:=.lst [.tup [.lst [],.int 0]]) (x:=.tup [.lst [],.int 0]) (y:=.lst []) (b:=true) (by simp_arith) rfl rfl (by exact fun _=>by simp_arith)];simp_arith;exact fin_same rfl
theorem Ck (L:aa):nL (.ref L.length) [.ref (L.length+1)] (.ah [] :: .ah []::L)=.ok .bj (.ah [] :: .ah []::L):=by
 unfold nL;simp only [n7,fc,rS,dX]
theorem yO (M:aa) (a1 a2 a4 a6 a7 Qc:Option T):ab [asg (.one 12) (af bK [v 9]),df (ar bu (v 12) [af jr [v 8,v 11]]),iff (tv (af lP [comp true (src (v 5)) [none,none,some 12] (.one 1) yes (b2 (ar bH (v 2) [vi 1 0,vi 1 0]) (ar bH (v 2) [vi 1 1,vi 1 1]) (cmp .NotEq))])) (ab [df (ar aD (v 10) [af bP [v 12,v 3]])]) (ab [])]
  [some (.lst []),a1,a2,some (.ah []),a4,some (.lst []),a6,a7,some (.lst []),some (.ah []),some (.ref M.length),some (.lst []),Qc] (.lst []::M)=.nx [some (.lst []),a1,a2,some (.ah []),a4,some (.lst []),a6,a7,some (.lst []),some (.ah []),some (.ref M.length),some (.lst []),some (.ref (M.length+1))] (.ah [] :: .ah [] :: .lst [.ah []]::M):=by
 have e1:∀L:aa,bK [.ah []] L=.ok (.ref L.length) (.ah []::L):=fun _=>rfl
 have e2:∀L:aa,jr [.lst [],.lst []] L=.ok (.ref L.length) (.ah []::L):=fun L=>by
  show a8 _ (sC [] L)=_;rw [az (by decide),Bn]
 have e3:=Ck (.lst []::M);have e4:at_ (.ah [] :: .ah [] :: .lst []::M) M.length=some (.lst []):=E4
 have e5:put (.ah [] :: .ah [] :: .lst []::M) M.length (.lst [.ah []])=.ah [] :: .ah [] :: .lst [.ah []]::M:=Ih (A:=[.ah [],.ah []]);simp_arith [e1,e2,bu];rw [QX] at e3;rw [e3];simp_arith;rw [ax (x:=.lst []) (by simp_arith) rfl];simp_arith [show ∀L,lP [.lst []] L=.ok (.bl true) L from fun _=>rfl,lJ,e4];rw [az (by decide),e5];simp_arith
theorem u7 (i j t u:Nat) (a b:Cs) (L:aa):gL [.lst [],aO i a t,aO j b u,.ah []] L=.ok (.lst [.ah []]) L:=by
 unfold gL;simp_arith [Nu,yL];rw [ax (x:=.lst []) (by simp_arith [Nu]) rfl];simp_arith;generalize ho:forL _ _ _ _ _ _=o;obtain rfl:=jw ho sv;simp_arith;rw [ax (x:=.lst []) (by simp_arith [yL]) rfl];simp_arith [u5];rw [ax (x:=.lst []) (by simp_arith) rfl];simp_arith;rw [ax (x:=.lst []) (by simp_arith) rfl];simp_arith [qw];rw [show((0:Nat):Int)=0 from rfl];simp_arith [u6];generalize ho:forL _ _ _ _ _ _=o;obtain rfl:=g6 ho sv rfl (yO (.ah []::L) ..) sv;simp_arith;exact yl (Ln:=[.ah [],.ah [],.lst [.ah []],.ah []]) (E4 (L:=.ah []::L)) (SO _) rfl
noncomputable def vz (k:Cs):T:=.tup [.tup [fT (f0 k)],.tup [],.tup [],.bl false]
theorem Nv {k:Cs}:(f0 k).as=[]:=rfl
theorem Nx (L:aa):dm true [.tup []] L=.ok (.lst []) L:=by show fk true [] L=_;exact az (by decide)
theorem Mc {f:Fc} {L:aa}:jy (fT f) (.tup []) L=.ok false L:=az ⟨ju f,rfl⟩
theorem Bo (x:T) (L:aa):gj [x,.tup []] L=.ok .bj L:=by
 unfold gj;simp_arith;generalize ho:forL _ _ _ _ _ _=o;obtain rfl:=jw ho sv;simp_arith
theorem yP (L:aa):ek [.tup [],.lst []] L=.ok (.lst []) L:=by
 unfold ek;simp_arith;rw [show(((0:Nat):Int) == 0)=true from rfl];simp_arith [Nx];exact fin_same rfl
theorem Bp {ks:List Kd} {k:Cs} (h4:ks.length<=4) (hn:(ks.map (·.n)).Nodup) (hf:aM ks (f0 k)) (hl:k∉bV ks) (L:aa):dB [.lst (ks.map kT),.lst [fT (f0 k)]] L=.ok (vz k) L:=by
 have c0:∀L,aS [.lst (ks.map kT),.lst []] L=.ok .bj L:=fun L=>eM ks [] _ L rfl hn (by omega) (fun _ h=>nomatch h)
 have c1:∀L,aS [.lst (ks.map kT),.lst [fT (f0 k)]] L=.ok .bj L:=fun L=>eM ks [f0 k] _ L rfl hn (by omega) (fun f h=>by rw [Rr.mp h];exact hf)
 have c2:∀L,bq [.lst ((bV ks).map .str),.lst []] L=.ok .bj L:=fun L=>gZ (bV ks) [] (fun _ h=>nomatch h) L
 have e1:∀L,bK [.tup []] L=.ok (.ref L.length) (.ah []::L):=Bn;have hd:decide ((f0 k).k∈bV ks)=false:=decide_eq_false hl
 have s1:∀L,jq true [.lst [fT (f0 k)]] L=.ok (.lst [fT (f0 k)]) L:=fun L=>by
  show a8 _ (fk true (oC [fT (f0 k)]) L)=_;rw [az ⟨by simp,rfl,.inl rfl,rfl⟩,t8 _ (by simp)];exact az (by simp;decide)
 have s2:∀L,kz true [.lst []] L=.ok (.lst []) L:=fun L=>by
  show a8 _ (fk true (oC (td [])) L)=_;rw [az ⟨⟨by decide,rfl,.inl rfl,rfl⟩,rfl,rfl⟩,t8 _ (by decide)];exact az (by decide)
 have s3:jb true [.ref L.length] (.ah []::L)=.ok (.lst []) (.ah []::L):=by
  unfold jb;simp only [fc,dy,dX];rw [az ⟨by decide,rfl,.inl rfl,rfl⟩,t8 _ (by decide)];exact az (by decide)
 unfold dB oh;simp_arith [show n8=.tup [.tup [],.tup [],.tup [],.bl false] from rfl,c0,c1];rw [oB ks h4 rfl (by exact rfl) (by exact sv) (by exact fun _=>rfl)];simp_arith [c2,e1];rw [ax (x:=.lst []) (by simp_arith) rfl];simp_arith [yP];generalize ho:forL _ _ _ _ _ _=o;obtain rfl:=g6 ho sv rfl (by simp_arith [Bo,Nv];rfl) sv;simp_arith;generalize ho:forL _ _ _ _ _ _=o;obtain rfl:=jw ho sv;simp_arith [Nx,show decide (((0:Nat):Int) > 0)=false from rfl];rw [br (z:=.lst [fT (f0 k)]) (x:=fT (f0 k)) (y:=fT (f0 k)) (b:=true) (by simp_arith) rfl rfl (by exact fun _=>by simp_arith [fe])];simp_arith;rw [br (z:=.lst [fT (f0 k)]) (x:=fT (f0 k)) (y:=fT (f0 k)) (b:=true) (by simp_arith) rfl (by simp_arith [hd]) (by exact fun _=>by simp_arith)];simp_all_arith;rw [br (z:=.lst [fT (f0 k)]) (x:=fT (f0 k)) (y:=fT (f0 k)) (b:=false) (by simp_arith) rfl (by simp_arith [hd]) (by exact fun h=>nomatch h)];simp_arith [s1,s2,s3];rw [dZ (by rfl)];simp_arith;exact fin_same rfl
theorem Bq {ks:List Kd} {rs:List Rl} {i:Nat} {r:Rl} (hr:rs[i]?=some r) (ho:opens (r.take++r.keep)=[]) (L:aa):dz [cQ ks rs,.tup [.int (i:Nat),.tup []]] L=.ok .bj L:=by
 have hi:=(Q2.mp hr).1;unfold dz;simp_arith [show ¬ ((i:Nat):Int)<0 by omega,decide_false,show ¬ (rs.length:Int)<=(i:Nat) by omega,t5 hr,ho];rw [show(((0:Nat):Int) != ((0:Nat):Int))=false from rfl];simp_arith
theorem Qd {k:Cs} {L:aa}:ix (vz k) (.int 1) L=.ok (.tup []) L:=rfl
theorem Qe {k:Cs} {L:aa}:ix (vz k) (.int 3) L=.ok (.bl false) L:=rfl
theorem Br {r:Rl} (h:r.aC=[]) (x:T) (L:aa):dA [aB r,x] L=.ok (.bl true) L:=by
 unfold dA;simp_arith;rw [ax (x:=.lst []) (by simp_arith [h]) rfl];simp_arith [show ∀L,lP [.lst []] L=.ok (.bl true) L from fun _=>rfl]
theorem Bs {ks:List Kd} {r:Rl} {k:Cs} (h4:ks.length<=4) (H:Hd ks r k) (x:T) (L:aa):c7 [.lst (ks.map kT),aB r,x,vz k] L=.ok (.bl true) L:=by
 have hh:r.take.map fT++r.keep.map fT=[fT (f0 k)]:=by rw [<- Rg,H.h];rfl
 have hf:decide ((f0 k).k∈bV ks)=false:=decide_eq_false H.n;have eq1:eqT (fT (f0 k)) (fT (f0 k))=true:=by rw [tP];simp
 have d8:=ju (f0 k);have c1:∀L,sA (.tup [fT (f0 k)]) [fT (f0 k)] L=.ok (.int 1) L:=fun L=>by
  show a8 _ _=_;rw [az ⟨d8,by simp [d8]⟩];simp [eq1]
 have c2:∀L,sy (.lst [fT (f0 k)]) [fT (f0 k)] L=.ok (.int 1) L:=fun L=>by
  show a8 _ _=_;rw [az ⟨d8,by simp [d8]⟩];simp [eq1]
 unfold c7 vz;simp_arith;rw [oB ks h4 rfl (by exact rfl) (by exact sv) (by exact fun _=>rfl)];simp_arith;rw [br (z:=.lst [fT (f0 k)]) (x:=fT (f0 k)) (y:=fT (f0 k)) (b:=true) (by simp_arith [hh]) rfl rfl (by exact fun _=>by simp_arith [fe])];simp_arith;generalize ho:forL _ _ _ _ _ _=o;obtain rfl:=g6 ho sv rfl (by simp_arith [hf,c1,c2];rfl) sv;simp_arith
theorem u9 {r:Rl} (h:r.put.length<=1) (h0:∀f∈r.put,f.as=[]) (ht:r.tell=[]) (x:T) (L:aa):gJ [aB r,x,.tup []] L=.ok (.bl (!decide (r.put=[]))) L:=by
 unfold gJ;simp_arith [ht]
 match hp:r.put,h,h0 with
 | [],_,_ =>
  rw [ax (x:=.lst []) (by simp_arith [hp]) rfl];simp_arith [show ∀L,m4 [.lst []] L=.ok (.bl false) L from fun _=>rfl];rw [ax (x:=.lst []) (by simp_arith [ht]) rfl];simp_arith;rw [ax (x:=.lst []) (by simp_arith) rfl];simp_arith [show ∀L,m4 [.lst []] L=.ok (.bl false) L from fun _=>rfl];rfl
 | [f],_,h0 =>
  have e:=h0 f QR;obtain⟨q,as⟩:=f;subst e;rw [br (z:=.lst [fT (f0 q)]) (x:=fT (f0 q)) (y:=.bl true) (b:=true) (by simp_arith [hp];rfl) rfl rfl (by exact fun _=>by simp_arith [fe,Mc])];simp_arith [show ∀L,m4 [.lst [.bl true]] L=.ok (.bl true) L from fun _=>rfl];simp
structure Rk (ks:List Kd) (r:Rl) (k:Cs):Prop extends Hd ks r k where
 tl:r.tell=[]
 put:r.take=[]->r.put.length<=1/\∀f∈r.put,f.as=[]
noncomputable def cb (r:Rl):Bool:=!decide (r.take=[]) || !decide (r.put=[])
theorem t9 {ks:List Kd} {rs:List Rl} {i:Nat} {r:Rl} {k:Cs} (h4:ks.length<=4) (hr:rs[i]?=some r) (H:Rk ks r k) (L:aa):iU [cQ ks rs,vz k,.tup [.int (i:Nat),.tup []]] L=.ok (.bl (cb r)) L:=by
 have ho:opens (r.take++r.keep)=[]:=by rw [H.h];rfl
 unfold iU cb;simp_arith;rw [lH (r:=r) (F:=aR) (by simp_arith [t5 hr]) rfl];simp_arith [ox];cases h3:decide (r.take=[]) with
 | false=>simp_arith;rfl
 | true =>
  simp_arith;have hz:∀L,jr [.lst [],.tup []] L=.ok (.ref L.length) (.ah []::L):=fun L=>by
   show a8 _ (sC [] L)=_;rw [az (by decide),Bn]
  have e:=of_decide_eq_true h3;unfold rV;simp_arith [Bq hr ho,Qe,t5 hr,ho,hz,Br H.lk,Bs h4 H.toHd];rw [lH (r:=r) (F:=aR) (by simp_arith) rfl];simp_arith [ox,h3,Qd,u9 (H.put e).1 (H.put e).2 H.tl];rw [dZ (by rfl)];simp_arith;rfl
noncomputable def rq (i:Nat):T:=.tup [.int (i:Nat),.tup []]
noncomputable def dn (k:Cs) (i j:Nat):T:=.tup [vz k,rq i,rq j]
theorem Cm (i j:Nat) (L:aa):sx (rq i) (rq j) L=.ok (decide (i=j)) L:=by
 show a8 _ (.ok ((((i:Nat):Int) == ((j:Nat):Int)) && (jx (qD 7) [.tup []] [.tup []])) L)=_;rw [az ⟨rfl,rfl⟩,show jx (qD 7) [.tup []] [.tup []]=true from rfl,Vt];congr 1;rw [R6,beq_iff_eq,decide_eq_true_eq];omega
theorem Io {k:aa->Prop} {tg:Tg} {b:SS} {φ:Fr} {L:aa} {o:O} {x:T} {φ1 φ2:Fr} {L2:aa} (ho:forL k tg b [x] φ L=o) (hk:k L) (h1:tg.set x φ=some φ1) (hb:b φ1 L=.ct φ2 L2) (lK:k L2):o=.nx φ2 L2:=by
 rw [<- ho,forL,if_pos hk];simp only [h1,hb,forL,if_pos lK]
theorem Ip {ks:List Kd} {rs:List Rl} {i j t u:Nat} {r q:Rl} {k:Cs} (h4:ks.length<=4) (hn:(ks.map (·.n)).Nodup) (hf:aM ks (f0 k)) (hr:rs[i]?=some r) (hq:rs[j]?=some q) (R:Rk ks r k) (Q:Rk ks q k) (L:aa):tS [cQ ks rs,.lst [],aO i k t,aO j k u,.lst [.int 0],.ah []] L=.ok (.lst (if i=j then [] else if cb r=true/\cb q=true then [dn k i j] else [])) L:=by
 have m1:=fun L=>t9 (k:=k) h4 hr R L
 have m2:=fun L=>t9 (k:=k) h4 hq Q L
 have vd:∀L,jy (.int 0) (.lst [.int 0]) L=.ok true L:=fun L=>by
  show a8 _ _=_;rw [az ⟨rfl,rfl⟩];rfl
 unfold tS;simp_arith [Ii,P8];rw [t6 (x:=.tup [.int 0,fT (f0 k)]) (y:=fT (f0 k)) (b:=false) (k:=stays (.lst [fT (f0 k)]) L) (by simp_arith [Ii];rfl) u4 rfl (by simp_arith [vd]) (by exact fun h=>nomatch h)];simp_arith [u7];generalize ho:forL _ _ _ _ _ _=o;by_cases e:i=j
 ·obtain rfl:=Io (L2:=.lst []::L) ho sv rfl (by
   simp_arith [Jh,yL];rw [ax (x:=.lst []) (by simp_arith [yL]) rfl];simp_arith [Jh,yL];rw [ax (x:=.lst []) (by simp_arith [yL]) rfl];simp_arith;rw [show sx (.tup [.int (i:Nat),.tup []]) (.tup [.int (j:Nat),.tup []]) (.lst []::L)=.ok true (.lst []::L) from(Cm i j _).trans (by rw [decide_eq_true e])];simp_arith;rfl) sv
  simp_arith;rw [if_pos e];exact cf (show lt L.length (.lst [])=true from rfl)
 ·have hl:fj L.length (if cb r=true/\cb q=true then [dn k i j] else [])=true:=by
   split
   ·simp [fj,lt,dn,vz,rq,dY]
   ·rfl
  obtain rfl:=g6 (L2:=.lst (if cb r=true/\cb q=true then [dn k i j] else [])::L) ho sv rfl (by
   simp_arith [Jh,yL];rw [ax (x:=.lst []) (by simp_arith [yL]) rfl];simp_arith [Jh,yL];rw [ax (x:=.lst []) (by simp_arith [yL]) rfl];simp_arith;rw [show sx (.tup [.int (i:Nat),.tup []]) (.tup [.int (j:Nat),.tup []]) (.lst []::L)=.ok false (.lst []::L) from(Cm i j _).trans (by rw [decide_eq_false e])];simp_arith;rw [br (z:=.lst [fT (f0 k)]) (x:=fT (f0 k)) (y:=fT (f0 k)) (b:=true) (by simp_arith) rfl rfl (by exact fun _=>by simp_arith [fe])];simp_arith [Bp h4 hn hf R.n,m1,m2];cases hm:cb r with
   | false=>simp_arith;rfl
   | true =>
    simp_arith;cases vn:cb q with
    | false=>simp_arith;rfl
    | true =>
     simp_arith;rw [az (by decide)];simp_arith;rfl) sv
  simp_arith;rw [if_neg e];exact cf (show lt L.length (.lst (if cb r=true/\cb q=true then [dn k i j] else []))=true by rw [lt];exact hl)
theorem Cn (n:Nat) (k:Cs) (i j:Nat):lt n (dn k i j)=true:=by simp [fj,lt,dn,vz,rq,dY]
theorem Iq (k:Cs) (i j:Nat) (L:aa):bK [.lst [.tup [dn k i j,.bl true]]] L=.ok (.ref L.length) (.ah [(dn k i j,.bl true)]::L):=by
 show a8 (fm [dn k i j]=true/\1<=100000) (R.ok (T.ref L.length) (T.ah (m5 [(dn k i j,.bl true)])::L))=_;rw [az ⟨rfl,by decide⟩];rfl
theorem Ir (k:Cs) (i j:Nat) (L:aa):nL (.ref L.length) [.ref (L.length+1)] (.ah [(dn k i j,.bl true)] :: .ah []::L)=.ok .bj (.ah [(dn k i j,.bl true)] :: .ah [(dn k i j,.bl true)]::L):=by
 unfold nL dn;simp only [n7,fc,rS,dX,A8]
noncomputable def ig (i j:Nat) (a b:Cs) (r q:Rl):Bool:=!decide (i=j) && ((b == a) && ((decide (0<r.take.length) || decide (0<q.take.length)) && (cb r && cb q)))
theorem ij {ks:List Kd} {rs:List Rl} {i j:Nat} {r q:Rl} {a b:Cs} (h4:ks.length<=4) (hn:(ks.map (·.n)).Nodup) (hf:aM ks (f0 a)) (hr:rs[i]?=some r) (hq:rs[j]?=some q) (R:Rk ks r a) (Q:Rk ks q b) (L:aa):cg [cQ ks rs,.lst [],.int (i:Nat),.int (j:Nat)] L=.ok (.lst (if ig i j a b r q=true then [dn a i j] else [])) L:=by
 have bl:∀(E:List (T × T)) (M:aa),E.length<=1->at_ M L.length=some (.ah E)->dm true [.ref L.length] M=.ok (.lst (E.map (·.1))) M:=fun E M hE h=>by
  unfold dm;simp only [fc,h,dX];exact az (by simp;unfold lim;omega)
 unfold cg;simp_arith [yK h4 hr R.toHd,yK h4 hq Q.toHd,Bl];generalize ho:forL _ _ _ _ _ _=o;by_cases hM:(b == a)=true/\(decide (0<r.take.length) || decide (0<q.take.length))=true
 ·rw [if_pos hM] at ho
  obtain⟨e,hM⟩:=hM;have e:=eq_of_beq e
  subst e;have hm:=fun L=>Ip (t:=r.take.length) (u:=q.take.length) h4 hn hf hr hq R Q L
  have hd:ig i j b b r q=(!decide (i=j) && (cb r && cb q)):=by unfold ig;rw [hM];simp
  obtain⟨X,hX,eX,eD⟩:∃X:List T,(X=[]\/X=[dn b i j])/\(if i=j then [] else if cb r=true/\cb q=true then [dn b i j] else [])=X/\(if ig i j b b r q=true then [dn b i j] else [])=X:=by
   rw [hd];by_cases e:i=j
   ·exact⟨[],.inl rfl,by rw [if_pos e],by simp [e]⟩
   ·by_cases e2:cb r=true/\cb q=true
    ·exact⟨_,.inr rfl,by rw [if_neg e,if_pos e2],by simp [e,e2]⟩
    ·refine⟨[],.inl rfl,by rw [if_neg e,if_neg e2],if_neg ?_⟩
     simp only [QS];exact fun z=>e2 z.2
  rw [eX] at hm;rw [eD];have ci:(((i:Nat):Int) == ((j:Nat):Int))=decide (i=j):=by
   rw [R6,beq_iff_eq,decide_eq_true_eq];omega
  obtain rfl:=g6 (φ2:=[some (cQ ks rs),some (T.lst []),some (T.int (i:Nat)),some (T.int (j:Nat)),some (aO i b r.take.length),some (aO j b q.take.length),some (T.ref (Th L)),some qv,some (.ah []),some (.lst [.int 0])]) (L2:=.ah (X.map fun x=>(x,.bl true)) :: .ah (X.map fun x=>(x,.bl true))::L) ho sv rfl (by
   simp_arith [ci,yM,ite_self,yN];rw [br (z:=qv) (x:=.tup [.int 0,.int 0]) (y:=.int 0) (b:=true) (by simp_arith) rfl rfl (by exact fun _=>by simp_arith)];simp_arith [bu];rcases hX with rfl|rfl
   ·rw [ax (x:=.lst []) (by simp_arith [hm]) rfl]
    simp_arith [Ik,Ck]
   ·rw [br (z:=.lst [dn b i j]) (x:=dn b i j) (y:=.tup [dn b i j,.bl true]) (b:=true) (by simp_arith [hm]) rfl rfl (by exact fun _=>by simp_arith)]
    simp_arith [Iq,Ir]) sv
  simp_arith;rw [bl (X.map fun x=>(x,.bl true)) _ (by rcases hX with rfl|rfl <;> simp) n7];simp_arith;rw [show(X.map fun x=>(x,T.bl true)).map (·.1)=X by rcases hX with rfl|rfl <;> rfl];exact HH (by rcases hX with rfl|rfl <;> simp [lt,fj,Cn])
 ·rw [if_neg hM] at ho
  obtain rfl:=jw ho sv;simp_arith;rw [bl [] _ (by simp) dy];simp_arith;rw [if_neg (by
   unfold ig;simp only [QS];exact fun z=>hM ⟨z.2.1,z.2.2.1⟩)]
  exact dZ rfl
theorem ua {k:aa->Prop} {tg:Tg} {b:SS} {φ:Fr} {L:aa} {o:O} {x y:T} {φ1 φ2 φ3 φ4:Fr} {L2 L4:aa} (ho:forL k tg b [x,y] φ L=o) (hk:k L) (h1:tg.set x φ=some φ1) (hb:b φ1 L=.nx φ2 L2) (lK:k L2) (h3:tg.set y φ2=some φ3) (C2:b φ3 L2=.nx φ4 L4) (DX:k L4):o=.nx φ4 L4:=by
 rw [<- ho,forL,if_pos hk];simp only [h1,hb,forL,if_pos lK,h3,C2,if_pos DX]
theorem Bt {ks:List Kd} {r0 r1:Rl} (L:aa):dC [cQ ks [r0,r1]] L=.ok (.lst [.tup [.int 0,.int 0],.tup [.int 0,.int 1],.tup [.int 1,.int 1]]) L:=by
 have e:∀L,pe true [.int 2] L=.ok (.lst [.int 0,.int 1]) L:=fun L=>by
  show a8 _ (fk true [.int 0,.int 1] L)=_;rw [az ⟨gV (n:=2) (by decide),by decide⟩];exact az (by decide)
 unfold dC;simp_arith;rw [show((2:Nat):Int)=2 from rfl];simp_arith [e];generalize ho:forL _ _ _ _ _ _=o;obtain rfl:=ua (φ2:=[some (cQ ks [r0,r1]),some (.lst [.int 0,.int 1]),some (.ref L.length),some (.int 0)]) (L2:=.lst [.tup [.int 0,.int 0],.tup [.int 0,.int 1]]::L) (φ4:=[some (cQ ks [r0,r1]),some (.lst [.int 0,.int 1]),some (.ref L.length),some (.int 1)]) (L4:=.lst [.tup [.int 0,.int 0],.tup [.int 0,.int 1],.tup [.int 1,.int 1]]::L) ho sv rfl (by
   simp_arith;rw [cV rfl [0,1] (fun t:Nat=>T.int (t:Nat)) (fun t:Nat=>.tup [.int 0,.int (t:Nat)]) (by exact rfl) (by exact sv) (by decide) (by exact fun t _=>by simp_arith)];simp_arith;rw [iY (.inl rfl) (by decide)];rfl) sv rfl (by
   simp_arith;rw [cV rfl [1] (fun t:Nat=>T.int (t:Nat)) (fun t:Nat=>.tup [.int 1,.int (t:Nat)]) (by exact rfl) (by exact sv) (by decide) (by exact fun t _=>by simp_arith)];simp_arith;rw [iY (.inl rfl) (by decide)];rfl) sv
 simp_arith;exact cf rfl
theorem Iu (A L:aa):nL (.ref L.length) [.ref (A++T.ah []::L).length] (.ah []::(A ++ .ah []::L))=.ok .bj (.ah []::(A ++ .ah []::L)):=by
 have e:at_ (.ah []::(A ++ .ah []::L)) L.length=some (.ah []):=u3 (A:=.ah []::A)
 unfold nL;simp only [e,fc,dy,dX]
theorem yQ {ks:List Kd} {r:Rl} {k:Cs} (H:Hd ks r k) (hs:bJ r=[]) {z:Option T} (bk:T) (A L:aa):ab [aT (src (b2 (b1 (v 2) (fld "taken")) (b1 (v 2) (fld "kept")) (aH true .Add))) (.one 3) (ab [df (ar bu (v 1) [af bK [comp true (src (vi 3 1)) [none,none] (.one 1) yes (tup [v 1,c (.bl true)])]])]),df (ar bu (v 1) [af bK [comp true (src (af bU [v 2])) [none,none] (.one 1) yes (tup [v 1,c (.bl true)])]])] [some bk,some (.ref L.length),some (aB r),z] (A ++ .ah []::L)=.nx [some bk,some (.ref L.length),some (aB r),some (fT (f0 k))] ((.ah [] :: .ah []::A) ++ .ah []::L):=by
 have hh:r.take.map fT++r.keep.map fT=[fT (f0 k)]:=by rw [<- Rg,H.h];rfl
 have hp:=fun L=>yE r (by rw [hs];decide) L
 rw [hs] at hp;have ty:∀B:aa,vw (B ++ .ah []::L) (.ref L.length)=.ah []:=fun B=>by rw [fc,u3];rfl
 have tt:∀B:aa,Bv (B ++ .ah []::L) (.ref L.length)=some .d:=fun B=>by unfold Bv;rw [ty]
 have st:∀(B:aa) (e:SE) (φ:Fr),φ[1]?=some (some (.ref L.length))->e φ (B ++ .ah []::L)=.ok (.lst []) (B ++ .ah []::L)->df (ar bu (v 1) [af bK [e]]) φ (B ++ .ah []::L)=.nx φ ((.ah []::B) ++ .ah []::L):=fun B e φ h1 h2=>by
  simp only [B1,xX,FI,h1,S8,cm,ao,tt,Tr,bu,jd,lj,pS,h2,Ik,Iu,of_ok];rfl
 rw [bD,xW];rw [show src (b2 (b1 (v 2) (fld "taken")) (b1 (v 2) (fld "kept")) (aH true .Add)) [some bk,some (.ref L.length),some (aB r),z] (A ++ .ah []::L)=.ok ([fT (f0 k)],stays (.lst [fT (f0 k)]) (A ++ .ah []::L)) (A ++ .ah []::L) by simp_arith [hh],of_ok];generalize ho:forL _ _ _ _ _ _=o;obtain rfl:=g6 (φ2:=[some bk,some (.ref L.length),some (aB r),some (fT (f0 k))]) (L2:=(.ah []::A) ++ .ah []::L) ho sv rfl (by
  rw [bD,st A _ _ rfl (by rw [ax (x:=.tup []) (by simp_arith [Nv]) rfl];rfl)];rfl) sv
 rw [aY,bD,st _ _ _ rfl (by rw [ax (x:=.lst []) (by simp_arith [hp]) rfl];rfl),aY,rQ]
theorem Bu {ks:List Kd} {r0 r1:Rl} {a b:Cs} (H0:Hd ks r0 a) (H1:Hd ks r1 b) (s0:bJ r0=[]) (s1:bJ r1=[]) (L:aa):dD [cQ ks [r0,r1]] L=.ok (.lst []) L:=by
 unfold dD;simp_arith;generalize ho:forL _ _ _ _ _ _=o;obtain rfl:=ua ho sv rfl (yQ H0 s0 (cQ ks [r0,r1]) [] L) sv rfl (yQ H1 s1 (cQ ks [r0,r1]) [.ah [],.ah []] L) sv;rw [aY,bD,B2,ax (x:=.ref L.length) (by simp_arith) (by unfold items;rw [fc,u3];rfl)];simp_arith;exact iO (Ln:=[.ah [],.ah [],.ah [],.ah [],.ah []]) rfl
theorem Iv {k:aa->Prop} {tg:Tg} {b:SS} {φ:Fr} {L:aa} {o:O} {x y z:T} {φ1 φ2 φ3 φ4 φ5 φ6:Fr} {L2 L4 L6:aa} (ho:forL k tg b [x,y,z] φ L=o) (hk:k L) (h1:tg.set x φ=some φ1) (hb:b φ1 L=.nx φ2 L2) (lK:k L2) (h3:tg.set y φ2=some φ3) (C2:b φ3 L2=.nx φ4 L4) (DX:k L4) (h5:tg.set z φ4=some φ5) (Qf:b φ5 L4=.nx φ6 L6) (Qg:k L6):o=.nx φ6 L6:=by
 rw [<- ho,forL,if_pos hk];simp only [h1,hb,forL,if_pos lK,h3,C2,if_pos DX,h5,Qf,if_pos Qg]
theorem sr {ks:List Kd} {r0 r1:Rl} {a b:Cs} (h4:ks.length<=4) (hn:(ks.map (·.n)).Nodup) (ha:aM ks (f0 a)) (hb:aM ks (f0 b)) (R:Rk ks r0 a) (Q:Rk ks r1 b) (s0:bJ r0=[]) (s1:bJ r1=[]) (L:aa):cW [cQ ks [r0,r1]] L=.ok (.lst (if ig 0 1 a b r0 r1=true then [dn a 0 1] else [])) L:=by
 have Qh:∀L,cg [cQ ks [r0,r1],.lst [],.int 0,.int 0] L=.ok (.lst []) L:=fun L=>by
  have z:=ij (rs:=[r0,r1]) (i:=0) (j:=0) h4 hn ha rfl rfl R R L;rw [if_neg (by unfold ig;simp)] at z;exact z
 have Qi:∀L,cg [cQ ks [r0,r1],.lst [],.int 1,.int 1] L=.ok (.lst []) L:=fun L=>by
  have z:=ij (rs:=[r0,r1]) (i:=1) (j:=1) h4 hn hb rfl rfl Q Q L;rw [if_neg (by unfold ig;simp)] at z;exact z
 have Ny:∀L,cg [cQ ks [r0,r1],.lst [],.int 0,.int 1] L=.ok (.lst (if ig 0 1 a b r0 r1=true then [dn a 0 1] else [])) L:=fun L=>ij (rs:=[r0,r1]) (i:=0) (j:=1) h4 hn ha rfl rfl R Q L
 have hX:(if ig 0 1 a b r0 r1=true then [dn a 0 1] else []).length<=1/\fj L.length (if ig 0 1 a b r0 r1=true then [dn a 0 1] else [])=true:=by
  split
  ·exact⟨Q3 _,by simp [fj,Cn]⟩
  ·exact⟨Rf _,rfl⟩
 generalize (if ig 0 1 a b r0 r1=true then [dn a 0 1] else [])=X at Ny hX ⊢;unfold cW;simp_arith [Bu R.toHd Q.toHd s0 s1,Bt];generalize ho:forL _ _ _ _ _ _=o;obtain rfl:=Iv (φ2:=[some (cQ ks [r0,r1]),some (.lst []),some (.ref L.length),some (.tup [.int 0,.int 0])]) (L2:=.lst []::L) (φ4:=[some (cQ ks [r0,r1]),some (.lst []),some (.ref L.length),some (.tup [.int 0,.int 1])]) (L4:=.lst X::L) (φ6:=[some (cQ ks [r0,r1]),some (.lst []),some (.ref L.length),some (.tup [.int 1,.int 1])]) (L6:=.lst X::L) ho sv rfl (by
   simp_arith [Qh];rw [iY (.inl rfl) (by decide)];rfl) sv rfl (by
   simp_arith [Ny];rw [iY (.inl rfl) (by have:=hX.1;simp;unfold lim;omega)];rfl) sv rfl (by
   simp_arith [Qi];rw [iY (.inl rfl) (by have:=hX.1;simp;unfold lim;omega)];simp_arith [RP]) sv
 simp_arith;exact cf (by simp [lt,hX.2])
theorem yR (a b:Cs) (i j k l:Nat) (L:aa):sx (dn a i j) (dn b k l) L=.ok ((a == b) && (decide (i=k) && decide (j=l))) L:=by
 have ci:∀i j:Nat,(((i:Nat):Int) == ((j:Nat):Int))=decide (i=j):=fun i j=>by
  rw [R6,beq_iff_eq,decide_eq_true_eq];omega
 show a8 _ (.ok (((((a == b) && true) && true) && true) && (((((i:Nat):Int) == ((k:Nat):Int)) && true) && (((((j:Nat):Int) == ((l:Nat):Int)) && true) && true))) L)=_;rw [az ⟨rfl,rfl⟩,ci,ci];simp
theorem FD:upTo 0 (2 - 0:Int).toNat=[.int 0,.int 1]:=rfl
theorem Iw (a:Cs) (r0 r1:Rl) (h0:r0.take=[]\/∃x,r0.take=[f0 x]) (h1:r1.take=[]\/∃x,r1.take=[f0 x]) (L:aa):fK [dn a 0 1,.lst [xT r0,xT r1]] L=.ok (.bl false) L:=by
 have e0:∀x L,sx (dn a 0 1) (.tup [.tup [.tup [fT (f0 x)],.tup [],.tup [],.bl false],.tup [.int 0,.tup []],.tup [.int 0,.tup []]]) L=.ok false L:=fun x L=>(yR a x 0 1 0 0 L).trans (by simp)
 have e1:∀x L,sx (dn a 0 1) (.tup [.tup [.tup [fT (f0 x)],.tup [],.tup [],.bl false],.tup [.int 1,.tup []],.tup [.int 1,.tup []]]) L=.ok false L:=fun x L=>(yR a x 0 1 1 1 L).trans (by simp)
 have hi:∀L,Cu [dn a 0 1,.cl (.type "tuple")] L=.ok (.bl true) L:=fun _=>rfl
 have h3:(((3:Nat):Int) != 3)=false:=rfl;rw [show dn a 0 1=.tup [vz a,rq 0,rq 1] from rfl] at e0 e1 hi ⊢;unfold fK;simp_arith [hi,h3];rw [p8 (i:=0) (j:=2) (L1:=L) (L2:=L) _ _ _ _ rfl rfl ⟨gV (n:=0) (by decide),gV (n:=2) (by decide)⟩,FD];simp_arith;generalize ho:forL _ _ _ _ _ _=o;obtain rfl:=ua (φ2:=[some (.tup [vz a,rq 0,rq 1]),some (.lst [xT r0,xT r1]),some (.int 0)]) (L2:=L) (φ4:=[some (.tup [vz a,rq 0,rq 1]),some (.lst [xT r0,xT r1]),some (.int 1)]) (L4:=L) ho trivial rfl (by
   rcases h0 with h|⟨x,h⟩
   ·simp_arith [h,List.isEmpty_nil]
   ·simp_arith [h,List.isEmpty_cons,e0]) trivial rfl (by
   rcases h1 with h|⟨x,h⟩
   ·simp_arith [h,List.isEmpty_nil]
   ·simp_arith [h,List.isEmpty_cons,e1]) trivial
 simp_arith
structure Kn (p0 p1 la:Cs) (ks:List Kd):Prop where
 g:KG ks
 f0:aM ks (f0 p0)
 f1:aM ks (y6.f0 p1)
 fl:aM ks (y6.f0 la)
 n0:p0∉bV ks
 n1:p1∉bV ks
 l:la∈bV ks
 s0:av p0=true
 s1:av p1=true
 sl:av la=true
theorem Iy {p0 p1 la:Cs} {d:Int} (s0:av p0=true) (s1:av p1=true) (sl:av la=true) (Qj:p0≠p1) (h0:p0≠la) (h1:p1≠la):∃ks,Kn p0 p1 la ks/\∀L,uD (.ref L.length) [.int (d % 3),.tup [.str la,.int 0,.bl true]] (.lst [.tup [.str p0,.int 0,.bl false],.tup [.str p1,.int 0,.bl false]]::L)=.ok .bj (.lst (ks.map kT)::L):=by
 have m0:=S4 d (show(3:Int)≠0 by decide);have m1:=S6 d (show(0:Int)<3 by decide)
 have K:∀ks:List Kd,ks.Perm [⟨p0,0,false⟩,⟨p1,0,false⟩,⟨la,0,true⟩]->Kn p0 p1 la ks:=fun ks h=>by
  have hm:∀k,k∈ks↔k=⟨p0,0,false⟩\/k=⟨p1,0,false⟩\/k=⟨la,0,true⟩:=fun k=>by rw [h.mem_iff];simp
  have hl:∀x,x∈bV ks↔x=la:=fun x=>by
   unfold bV;rw [((h.filter _).map _).mem_iff];simp
  refine⟨⟨by rw [h.length_eq];exact SO 3,(h.map _).nodup_iff.mpr (by simp [Qj,h0,h1]),fun k hk=>?_,⟨_,(hm _).mpr (.inr (.inr rfl)),rfl⟩,⟨_,(hm _).mpr (.inl rfl),rfl⟩⟩,⟨_,(hm _).mpr (.inl rfl),rfl,rfl⟩,⟨_,(hm _).mpr (.inr (.inl rfl)),rfl,rfl⟩,⟨_,(hm _).mpr (.inr (.inr rfl)),rfl,rfl⟩,fun z=>h0 ((hl _).mp z),fun z=>h1 ((hl _).mp z),(hl _).mpr rfl,s0,s1,sl⟩;rcases(hm k).mp hk with rfl|rfl|rfl
  ·exact⟨s0,Rf _⟩
  ·exact⟨s1,Rf _⟩
  ·exact⟨sl,Rf _⟩
 have P:∀(i:Int) (ks:List Kd),0<=i/\i<=1000->[T.tup [.str p0,.int 0,.bl false],.tup [.str p1,.int 0,.bl false]].take i.toNat++T.tup [.str la,.int 0,.bl true]::[T.tup [.str p0,.int 0,.bl false],.tup [.str p1,.int 0,.bl false]].drop i.toNat=ks.map kT->∀L,uD (.ref L.length) [.int i,.tup [.str la,.int 0,.bl true]] (.lst [.tup [.str p0,.int 0,.bl false],.tup [.str p1,.int 0,.bl false]]::L)=.ok .bj (.lst (ks.map kT)::L):=fun i ks hi e L=>by
  unfold uD;simp only [dy];rw [az ⟨show 2<lim by decide,hi⟩,rU,e]
 rcases(by omega:d % 3=0\/d % 3=1\/d % 3=2) with e|e|e <;> rw [e]
 ·exact⟨[⟨la,0,true⟩,⟨p0,0,false⟩,⟨p1,0,false⟩],K _ ((List.Perm.swap _ _ _).trans (.cons _ (.swap _ _ _))),P _ _ (by decide) rfl⟩
 ·exact⟨[⟨p0,0,false⟩,⟨la,0,true⟩,⟨p1,0,false⟩],K _ (.cons _ (.swap _ _ _)),P _ _ (by decide) rfl⟩
 ·exact⟨[⟨p0,0,false⟩,⟨p1,0,false⟩,⟨la,0,true⟩],K _ (.refl _),P _ _ (by decide) rfl⟩
structure Rw (ks:List Kd) (r:Rl) (t k:Cs):Prop where
 rk:Rk ks (bf r t) k
 rt:oG ks (bf r t)
 ff:aM ks (f0 k)
 sd:bJ (bf r t)=[]
 as:(∀f∈r.take++r.keep++r.put,f.as=[])/\r.aC=[]/\r.tell=[]
 tk:r.take=[]\/∃x,r.take=[f0 x]
theorem Co {p0 p1 la:Cs} {ks:List Kd} {r:Rl} {t:Cs} (K:Kn p0 p1 la ks) (R:Ig p0 p1 la r) (ht:av t=true):∃k,Rw ks r t k:=by
 obtain⟨k,hk,h⟩:=R.hd;have g:∀x,x=p0\/x=p1->FG (f0 x)/\aM ks (f0 x)/\x∉bV ks:=fun x hx=>by
  rcases hx with rfl|rfl
  ·exact⟨⟨K.s0,fun _ h=>(by cases h),Rf _⟩,K.f0,K.n0⟩
  ·exact⟨⟨K.s1,fun _ h=>(by cases h),Rf _⟩,K.f1,K.n1⟩
 have gl:FG (f0 la)/\aM ks (f0 la):=⟨⟨K.sl,fun _ h=>(by cases h),Rf _⟩,K.fl⟩;have pa:∀f∈r.put,f.as=[]/\FG f/\aM ks f:=fun f hf=>by
  rcases h with⟨_,_,_,h⟩|⟨_,_,h|h⟩
  ·rcases h f hf with rfl|rfl
   ·exact⟨rfl,(g _ (.inl rfl)).1,(g _ (.inl rfl)).2.1⟩
   ·exact⟨rfl,(g _ (.inr rfl)).1,(g _ (.inr rfl)).2.1⟩
  ·rw [h] at hf;cases hf
  ·rw [h] at hf;cases Rr.mp hf;exact⟨rfl,gl⟩
 have pl:r.put.length<=3:=by
  rcases h with⟨_,_,h,_⟩|⟨_,_,h|h⟩
  ·exact h
  ·rw [h];exact Rf _
  ·rw [h];exact Ud 1 2
 have hd:r.take++r.keep=[f0 k]:=by
  rcases h with⟨h1,h2,_⟩|⟨h1,h2,_⟩ <;> rw [h1,h2] <;> rfl
 have l1:r.take.length<=1/\r.keep.length<=1:=by
  have:=congrArg Th hd;simp at this;omega
 have sd:bJ (bf r t)=[]:=by
  show(r.aC.flatMap fun k=>[k.l,k.r])++((r.put.flatMap (·.as))++(r.tell.flatMap fun p=>[p.1,p.2]))=[];rw [R.lk,R.tl,List.flatMap_eq_nil_iff.mpr fun f hf=>(pa f hf).1];rfl
 have al:∀f∈r.take++r.keep++r.put,f.as=[]/\FG f/\aM ks f:=fun f hf=>by
  rw [hd] at hf;rcases RB.mp hf with hf|hf
  ·cases Rr.mp hf
   exact⟨rfl,(g _ hk).1,(g _ hk).2.1⟩
  ·exact pa f hf
 refine⟨k,⟨⟨⟨hd,(g _ hk).2.2,R.lk⟩,R.tl,fun e=>⟨?_,fun f hf=>(pa f hf).1⟩⟩,⟨ht,fun f hf=>(al f hf).2,fun x hx=>?_,fun x hx=>?_,fun e z=>?_,⟨by have:=l1.1;show r.take.length<=3;omega,by have:=l1.2;show r.keep.length<=3;omega,by show r.aC.length<=3;rw [R.lk];decide,pl,by show r.tell.length<=3;rw [R.tl];decide⟩,fun f hf=>?_,fun e f hf=>?_,fun a ha=>?_⟩,(g _ hk).2.1,sd,⟨fun f hf=>(al f hf).1,R.lk,R.tl⟩,?_⟩⟩
 ·rcases h with⟨h1,_⟩|⟨_,_,h|h⟩
  ·exact absurd (h1.symm.trans e) (Ts _ _)
  ·show r.put.length<=1;rw [h];exact Rf _
  ·show r.put.length<=1;rw [h];exact Q3 _
 ·rw [show(bf r t).aC=[] from R.lk] at hx;cases hx
 ·rw [show(bf r t).tell=[] from R.tl] at hx;cases hx
 ·rw [show r.take=[] from e,show r.keep=[] from z] at hd;cases hd
 ·have:f∈r.take++r.keep:=Q8 _ hf
  rw [hd] at this;cases Rr.mp this;exact(g _ hk).2.2
 ·rcases h with⟨h1,_⟩|⟨_,_,h|h⟩
  ·exact absurd (h1.symm.trans e) (Ts _ _)
  ·rw [show(bf r t).put=[] from h] at hf;cases hf
  ·rw [show(bf r t).put=[f0 la] from h] at hf;cases Rr.mp hf;exact K.l
 ·rw [sd] at ha;cases ha
 ·rcases h with⟨h1,_⟩|⟨h1,_⟩
  ·exact .inr ⟨_,h1⟩
  ·exact .inl h1
theorem ub (fs:List Fc) (L:aa) (h:∀f∈fs,f.as=[]):sx (.lst (fs.map fT)) (.lst []) L=.ok (decide (fs=[])) L:=by
 show a8 _ _=_;rw [az ⟨QO.mpr fun x hx=>by
  obtain⟨a,ha,rfl⟩:=Rj.mp hx;rw [show fT a=.tup [.str a.k,.tup (a.as.map .str)] from rfl,h a ha];rfl,rfl⟩]
 cases fs <;> rfl
theorem Iz (ns:List Int) (L:aa):qe [.lst (ns.map .int)] L=.ok (.bl true) L:=by
 obtain⟨d0,_,e0⟩:=jV ns 0 (by decide);obtain⟨d1,_,e1⟩:=jV ns 1 (by decide);obtain⟨d4,_,e4⟩:=jV ns 4 (by decide);obtain⟨nm,Me,ni,en⟩:=tX d0;obtain⟨nt,Nz,ti,et⟩:=tX d4;obtain⟨r0,o0,x0⟩:=yI ns 2 (by decide) (nm 0) (nm 1) (nm 2);obtain⟨r1,o1,x1⟩:=yI ns 3 (by decide) (nm 0) (nm 1) (nm 2);have ne:∀i j,i<3->j<3->i≠j->nm i≠nm j:=fun i j hi hj h z=>h (ni i hi j hj z)
 obtain⟨ks,K,ins⟩:=Iy (d:=d1) (Me 0 (by decide)) (Me 1 (by decide)) (Me 2 (by decide)) (ne 0 1 (by decide) (by decide) (by decide)) (ne 0 2 (by decide) (by decide) (by decide)) (ne 1 2 (by decide) (by decide) (by decide));obtain⟨a,A⟩:=Co K o0 (Nz 0 (by decide));obtain⟨b,B⟩:=Co K o1 (Nz 1 (by decide));have e0:∀L,aI [.lst (ns.map .int),.int 0] L=.ok (.int d0) L:=e0
 have e1:∀L,aI [.lst (ns.map .int),.int 1] L=.ok (.int d1) L:=e1;have e4:∀L,aI [.lst (ns.map .int),.int 4] L=.ok (.int d4) L:=e4
 have n0:∀L,aN [.int d0,.int 0,.str (S "k")] L=.ok (.str (nm 0)) L:=en 0 (by decide);have n1:∀L,aN [.int d0,.int 1,.str (S "k")] L=.ok (.str (nm 1)) L:=en 1 (by decide)
 have n2:∀L,aN [.int d0,.int 2,.str (S "k")] L=.ok (.str (nm 2)) L:=en 2 (by decide);have bt:=Bi ks K.g.ok K.g.len [r0,r1] rfl d4 nt et (fun i r h=>by
  match i,h with
  | 0,h=>cases h;exact⟨A.rt,A.as⟩
  | 1,h=>cases h;exact⟨B.rt,B.as⟩) L.length (.lst (ks.map kT)::L) dy
 have rb:=fun L=>qr (rs:=[bf r0 (nt 0),bf r1 (nt 1)]) K.g (Q3 2) (fun r hr=>by
  rcases Q5.mp hr with rfl|hr
  ·exact A.rt
  ·cases Rr.mp hr;exact B.rt) (by simp [bf];exact fun z=>absurd (ti 0 (by decide) 1 (by decide) z) (by decide)) L
 have ov:=fun L=>sr K.g.len K.g.nd A.ff B.ff A.rk B.rk A.sd B.sd L
 obtain⟨X,hX,ov⟩:∃X,X=(if ig 0 1 a b r0 r1=true then [dn a 0 1] else [])/\∀L,cW [cQ ks [bf r0 (nt 0),bf r1 (nt 1)]] L=.ok (.lst X) L:=⟨_,rfl,ov⟩;obtain⟨bk,rb,ov⟩:∃bk,(∀L,cw [.str (jn [10] (ks.map Bk.aq++[bf r0 (nt 0),bf r1 (nt 1)].map Bk.bO))] L=.ok bk L)/\∀L,cW [bk] L=.ok (.lst X) L:=⟨_,rb,ov⟩;obtain⟨tx,bt,rb⟩:∃tx,bx [.ref L.length,.lst [xT r0,xT r1],.int d4] (.lst (ks.map kT)::L)=.ok (.str tx) (.lst (ks.map kT)::L)/\∀L,cw [.str tx] L=.ok bk L:=⟨_,bt,rb⟩;have ha:r0.take.map fT++r0.keep.map fT=[fT (f0 a)]:=by rw [<- Rg,show r0.take++r0.keep=[f0 a] from A.rk.h];rfl
 have hb:r1.take.map fT++r1.keep.map fT=[fT (f0 b)]:=by rw [<- Rg,show r1.take++r1.keep=[f0 b] from B.rk.h];rfl
 have tf:=fun f hf=>A.as.1 f (Q8 _ (Q8 _ hf))
 have pf:=fun f hf=>A.as.1 f (Rv _ hf)
 have tg:=fun f hf=>B.as.1 f (Q8 _ (Q8 _ hf))
 have pg:=fun f hf=>B.as.1 f (Rv _ hf)
 have ow:=fun L=>Iw a r0 r1 A.tk B.tk L
 have cl:∀l:List Fc,decide (0<l.length) = !decide (l=[])/\(l.map fT).isEmpty=decide (l=[]):=fun l=>by cases l <;> simp
 have hD:ig 0 1 a b r0 r1=((a == b) && ((!decide (r0.take=[]) || !decide (r1.take=[])) && ((!decide (r0.take=[]) || !decide (r0.put=[])) && (!decide (r1.take=[]) || !decide (r1.put=[]))))):=by
  unfold ig cb;rw [(cl r0.take).1,(cl r1.take).1,show(b == a)=(a == b) from BEq.comm];rfl
 have t0:=fun L=>ub r0.take L tf
 have t1:=fun L=>ub r1.take L tg
 have q0:=fun L=>ub r0.put L pf
 have q1:=fun L=>ub r1.put L pg
 have i0:=(cl r0.take).2;have i1:=(cl r1.take).2
 rw [hD] at hX;generalize decide (r0.take=[])=u0 at *
 generalize decide (r1.take=[])=u1 at *
 generalize decide (r0.put=[])=w0 at *
 generalize decide (r1.put=[])=w1 at *
 have eh:∀L,sx (.lst [fT (f0 a)]) (.lst [fT (f0 b)]) L=.ok (a == b) L:=fun L=>by
  show a8 _ (.ok (((a == b) && true) && true) L)=_;rw [az ⟨rfl,rfl⟩];simp
 generalize (a == b)=g at *
 unfold qe;simp_arith [e0,n0,n1,n2,kC,e1,ins];rw [cV rfl [(0,r0),(1,r1)] (fun p:Nat × Rl=>T.int (p.1:Nat)) (fun p=>xT p.2) (by rw [p8 (i:=0) (j:=2) (L1:=.lst (ks.map kT)::L) (L2:=.lst (ks.map kT)::L) _ _ _ _ rfl rfl ⟨gV (n:=0) (by decide),gV (n:=2) (by decide)⟩,FD];exact rfl) (by exact trivial) (by show 2<=lim;decide) (by
  exact fun p hp=>by
   rcases Q5.mp hp with rfl|hp
   ·simp_arith
    exact x0 _
   ·cases Rr.mp hp
    simp_arith;exact x1 _)]
 simp_arith [e4,bt,rb,ov];rw [cV rfl [(r0,a),(r1,b)] (fun p:Rl × Cs=>xT p.1) (fun p=>.lst [fT (f0 p.2)]) (k:=stays (.lst [xT r0,xT r1]) (.lst (ks.map kT)::L)) (by simp_arith) (by exact sv) (by show 2<=lim;decide) (by
  exact fun p hp=>by
   rcases Q5.mp hp with rfl|hp
   ·simp_arith [ha]
   ·cases Rr.mp hp
    simp_arith [hb])]
 simp only [mk,if_true,Q4,UP,of_ok,aY,bD,xU,Tg.set,VS,VR];generalize hd:jz _ _ _=rr;obtain rfl:rr=.ok (.bl (g && (!u0 || !u1))) (.lst (ks.map kT)::L):=by
  rw [<- hd];cases g <;> cases u0 <;> cases u1 <;> simp_arith [eh,i0,i1,XD,XE,UX]
 simp_arith;generalize ho:forL _ _ _ _ _ _=o
 let F:T->Bool->Fr:=fun r z=>[some (.lst (ns.map .int)),some (.int d0),some (.lst [.str (nm 0),.str (nm 1)]),some (.str (nm 2)),some (.ref L.length),some (.lst [xT r0,xT r1]),some (.lst X),some r,some (.lst [.lst [fT (f0 a)],.lst [fT (f0 b)]]),some (.bl z),none,none,none]
 obtain rfl:=ua (φ2:=F (xT r0) (g && (!u0 || !u1) && (!u0 || !w0))) (L2:=.lst (ks.map kT)::L) (φ4:=F (xT r1) (g && (!u0 || !u1) && (!u0 || !w0) && (!u1 || !w1))) (L4:=.lst (ks.map kT)::L) ho sv rfl (by
   cases u0 <;> cases w0 <;> simp_arith [t0,q0,F,XD,XE,UX]) sv rfl (by
   cases u1 <;> cases w1 <;> simp_arith [t1,q1,F,XD,XE,UX]) sv
 have hi:∀L,Cu [.lst X,.cl (.type "list")] L=.ok (.bl true) L:=fun _=>rfl
 rw [show(g && ((!u0 || !u1) && ((!u0 || !w0) && (!u1 || !w1))))=(g && (!u0 || !u1) && (!u0 || !w0) && (!u1 || !w1)) by simp only [Bool.and_assoc]] at hX;generalize (g && (!u0 || !u1) && (!u0 || !w0) && (!u1 || !w1))=D at hX ⊢;have oa:T.tup [.tup [.tup [fT (f0 a)],.tup [],.tup [],.bl false],.tup [.int 0,.tup []],.tup [.int 1,.tup []]]=dn a 0 1:=rfl
 have ob:T.tup [.tup [.tup [fT (f0 a)],.tup [],.tup [],.bl false],.tup [.int 1,.tup []],.tup [.int 0,.tup []]]=dn a 1 0:=rfl;have qq:eqT (dn a 0 1) (dn a 0 1)=true:=by
  have z:a8 _ (R.ok (eqT (dn a 0 1) (dn a 0 1)) [])=_:=yR a a 0 1 0 1 [];rw [az ⟨rfl,rfl⟩] at z;simpa using z
 have iw:∀(l:List T) L,l.all (dat 8)=true->jy (dn a 0 1) (.lst (dn a 0 1::l)) L=.ok true L:=fun l L hl=>by
  show a8 _ _=_;rw [az ⟨rfl,by rw [R0,hl];rfl⟩,List.any_cons,qq];rfl
 have i1:=fun L=>iw [] L rfl
 have i2:=fun L=>iw [dn a 1 0] L rfl
 simp_arith [F,hi];rw [oa,ob];generalize ho:forL _ _ _ _ _ _=o;cases D with
 | true =>
  obtain rfl:X=[dn a 0 1]:=hX;obtain rfl:=g6 (L2:=.lst (ks.map kT)::L) (φ2:=[some (.lst (ns.map .int)),some (.int d0),some (.lst [.str (nm 0),.str (nm 1)]),some (.str (nm 2)),some (.ref L.length),some (.lst [xT r0,xT r1]),some (.lst [dn a 0 1]),some (xT r1),some (.lst [.lst [fT (f0 a)],.lst [fT (f0 b)]]),some (.bl true),some (dn a 0 1),some (.lst [dn a 0 1,dn a 1 0]),some (dn a 0 1)]) ho sv rfl (by simp_arith [ow,i2]) sv;simp_arith [i1];exact dZ rfl
 | false =>
  obtain rfl:X=[]:=hX;obtain rfl:=jw ho sv;simp_arith;exact dZ rfl
theorem yS:∀ns:List Int,ns.length<=63->∃L,qe [.lst (ns.map .int)] []=.ok (.bl true) L:=fun ns _=>⟨[],Iz ns []⟩
end y6
end
namespace y6
open PySem M
set_option maxHeartbeats 4000000
def G0:Ct:=⟨[],[("SMALL",iR),("GREAT",iS),("FIGURES",ji),("LONGEST",jj),("EMPTY",n8),("BROKEN",lB),("LINE_MARKS",fH),("KIND_WORDS",fJ),("RULE_WORD",cq),("PART_WORDS",bF),("COUNTS",lC)],[],["given","kept","kinds","lasting","left","looks","names","number","passing","right","rules","same","taken","takes","title","told","unlike"],["len","list","tuple","all","any","min","str","int","isinstance","range","enumerate","zip","sorted","set","dict"],[(36,12),(48,12),(81,12),(139,13),(142,11),(225,12),(262,11),(262,12),(265,24),(289,12),(296,12),(297,12),(332,11),(395,17),(406,12),(418,12),(424,12),(429,11),(438,12),(452,12),(466,12),(472,12),(489,17),(496,12),(530,15),(531,11),(540,17),(550,21),(568,17)]⟩
def ds:List Df:=.f false "_law_name" 3 100 aN :: .f false "_law_fact_text" 1 101 aG :: .f true "_law_part" 2 102 bg :: .f false "_law_rule_text" 2 103 bw :: .f false "_law_book_text" 3 104 bx :: .f false "_law_drawn" 2 99 aI :: .f false "_law_one_rule" 4 105 ba :: .f false "_law_own" 2 106 fK :: .mt "Same" "word" "Same.word" 1 40 1 jv :: .mt "Unlike" "word" "Unlike.word" 1 41 1 gW :: .f false "look_pairs" 3 79 cE :: .f false "written" 2 33 bz :: .mk "Side" "Side.__init__" 4 78 0 gg :: .f false "is_turned" 1 89 d5 :: .f false "free_mates" 3 81 cF :: .f false "has_taken" 3 82 d6 :: .f false "matchings" 2 80 d7 :: .f false "pair_written" 2 76 gh :: .f false "changes" 3 75 gJ :: .f false "check_step" 2 72 dz :: .f false "heads_there" 4 74 c7 :: .mt "Same" "holds" "Same.holds" 3 40 0 iT :: .f false "is_great" 1 18 aE :: .mt "Unlike" "holds" "Unlike.holds" 3 41 0 gi :: .f false "looks_hold" 2 73 dA :: .mt "Rule" "calls" "Rule.calls" 1 61 1 aR :: .f false "fits" 3 71 rV :: .f false "meets" 3 91 iU :: .f false "chosen" 2 37 qc :: .f false "in_turn" 1 93 gK :: .f false "name_open" 1 94 d9 :: .f false "whole_naming" 2 95 bP :: .f false "new_words" 2 97 eg :: .f false "word_choices" 2 96 cG :: .f false "namings" 4 92 gL :: .f false "check_facts" 2 31 aS :: .f false "check_taken" 2 32 bq :: .f false "know" 2 35 gj :: .f false "taken_out" 2 34 ek :: .f false "tell_same" 3 36 gn :: .f false "moved" 5 30 oh :: .f false "start_pool" 2 29 dB :: .f false "met" 6 90 tS :: .f false "shared_names" 3 83 cH :: .f false "meetings" 4 88 cg :: .f false "rule_pairs" 1 86 dC :: .f false "said_names" 1 69 bU :: .f false "said_words" 1 87 dD :: .f false "overlaps" 1 85 cW :: .f false "open_names" 1 63 dE :: .mk "Rule" "Rule.__init__" 3 61 0 gq :: .f false "is_name_sign" 1 19 bQ :: .f false "name_end" 2 22 fL :: .f false "pieces" 2 21 iV :: .f false "line_pieces" 1 50 da :: .f false "is_name" 1 17 cY :: .f false "is_small_word" 1 16 bc :: .f false "read_kind" 1 51 eB :: .f false "parted" 2 59 dR :: .f false "piece_at" 2 23 ay :: .mk "Same" "Look.__init__" 3 39 0 cu :: .mk "Unlike" "Look.__init__" 3 39 0 cu :: .f false "check_two_names" 1 58 bh :: .f false "read_look" 1 55 eC :: .f false "read_looks" 1 54 cJ :: .f false "read_pair" 1 57 eE :: .f false "read_pairs" 1 56 cK :: .f false "arguments_at" 2 25 cL :: .f false "fact_at" 2 24 gM :: .f false "row_of_facts" 1 20 cM :: .f false "read_part" 2 53 bR :: .f false "read_rule" 1 52 eF :: .f false "hear_line" 3 65 cv :: .f false "is_told" 1 49 gN :: .f false "told_lines" 1 48 dF :: .mk "Book" "Book.__init__" 3 62 0 gu :: .f false "check_call" 2 67 cN :: .f false "check_names" 1 68 de :: .f false "whole_book" 2 66 dG :: .f false "read_book" 1 64 cw :: .f false "law" 1 107 qe::[]
theorem Qk:xO PySem.Challenge.pw_poolrules_k37_two_rules_of_one_fact.main.body G0 ds:=by
 unfold ds
 repeat' first|refine M.K4 ?_|refine M.Hg ?_|refine M.Hh ?_|exact M.KZ
end y6
open PySem PySem.W PyProof.Rows M
set_option maxHeartbeats 0 in
theorem PySem.Challenge.cw_poolrules_k37_two_rules_of_one_fact_holds : PySem.Challenge.rw_poolrules_k37_two_rules_of_one_fact.Holds := by
 w_on;o_law;k_head;(case hw=>w_witness2)
 k_fill
 refine AS (l:=PySem.Challenge.rw_poolrules_k37_two_rules_of_one_fact) (n:=63) (k:=86) (m:=y6.qe) rfl (by decide) rfl ⟨rfl,by decide,by decide⟩ (fun w h Y=>kIn_of Y) (fun w mg fa h X G e=>?_) y6.yS;refine Ez PySem.Challenge.pw_poolrules_k37_two_rules_of_one_fact.main.body y6.G0 ["Book","Rule","Same","Side","Unlike"] y6.ds X G e y6.Qk (by decide) (by kernel_rfl) ⟨rfl,rfl⟩ (by decide +kernel) (xQ (by k_is) (by decide) (xQ (by k_is) (by decide) (xQ (by k_is) (by decide) (K5 (by k_is) (xR (us:=#[.ref _,.ref _,.ref _,.bool false]) (by k_is) (by k_is) (by decide) (uU (us:=#[]) (by k_is) (by decide) lh (uU (us:=#[]) (by k_is) (by decide) lh (uU (us:=#[]) (by k_is) (by decide) lh (Hi lh)))) (xR (us:=#[.ref _,.ref _,.ref _,.bool true]) (by k_is) (by k_is) (by decide) (uU (us:=#[]) (by k_is) (by decide) lh (uU (us:=#[]) (by k_is) (by decide) lh (uU (us:=#[]) (by k_is) (by decide) lh (Hi lh)))) (xQ (by k_is) (by decide) (xR (us:=#[.str ⟨(S "passing").toArray⟩ _,.str ⟨(S "lasting").toArray⟩ _]) (by k_is) (by k_is) (by decide) (jE (by decide) (jE (by decide) lh)) (xQ (by k_is) (by decide) (xR (us:=#[.str ⟨(S "take").toArray⟩ _,.str ⟨(S "keep").toArray⟩ _,.str ⟨(S "look").toArray⟩ _,.str ⟨(S "put").toArray⟩ _,.str ⟨(S "tell").toArray⟩ _]) (by k_is) (by k_is) (by decide) (jE (by decide) (jE (by decide) (jE (by decide) (jE (by decide) (jE (by decide) lh))))) (xR (us:=#[.str ⟨(S "0").toArray⟩ _,.str ⟨(S "1").toArray⟩ _,.str ⟨(S "2").toArray⟩ _,.str ⟨(S "3").toArray⟩ _,.str ⟨(S "4").toArray⟩ _]) (by k_is) (by k_is) (by decide) (jE (by decide) (jE (by decide) (jE (by decide) (jE (by decide) (jE (by decide) lh))))) Hc))))))))))) ?_ ?_ ?_;all_goals repeat' first|exact Hc|refine K0 (by k_is) ?_|refine K1 (by k_is) ?_|refine K2 (by k_is) (by k_is) (by k_is) (by k_is) (by k_is) (by k_is) (by k_is) ?_ ?_|refine K3 (by k_is) (by k_is) (by k_is) (by k_is) ?_|refine He (by k_is) (by k_is) (by k_is) (by k_is) (by k_is) (by k_is) (by decide) ?_|refine Hf (by k_is) (by k_is) (by k_is) (by k_is) (by k_is) (by k_is) (by decide) ?_
