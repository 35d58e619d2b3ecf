import PyProof.Rows.All
import Wide.All
import OpenK.AllK
import Wide.FinOn
import PyProof.EqAt
import PyProof.EqKinds
import PyProof.TupleCall
import PyProof.EnumFor
import PyProof.EnumStmt
import PyProof.EnumMake
import PyProof.StrOps2
import PyProof.ZipIter
import PyProof.SumWalkG
import PyProof.IsiPairs
import PyProof.DictRoadsH
import PyProof.Rows.TupTab
import KE.KSortAsk
import KE.KSortTup
import PySem.Challenge.RW_poolrules_k22_more_facts_more_sameness
set_option Elab.async false
set_option linter.all false
namespace PySem.W.Fast
def tw12409353171189249948:=True
def tw751754219050085312:=True
def tw14034513737574234511:=True
def tw7593071067394104083:=True
def tw6419617311974445480:=True
def tw14191789469186452533:=True
def tw15911105813445092470:=True
def tw14647422477745054579:=True
def tw7139156672691371654:=True
def tw1552833752015885414:=True
def tw6922825974224616861:=True
def tw716473074547884400:=True
def tw5248295611478172102:=True
def tw15153445354308316456:=True
def tw3720387910531545502:=True
def tw15132485087061038927:=True
def tw13204607363852819535:=True
def tw4238955443936142701:=True
def tw268774821208013790:=True
def tw213171327649514296:=True
def tw13013014898703615597:=True
def tw8141031569566524241:=True
def tw8031718370855661554:=True
def tw249964743638553624:=True
def tw7978785191810415686:=True
def tw10234117302303663865:=True
def tw6634845614109070446:=True
def tw9798473672830865423:=True
def tw278697750084328626:=True
def tw2866540375964814552:=True
def tw12421133022980965816:=True
def tw5205313605470945842:=True
def tw13902088919564281531:=True
def tw14272067061887938944:=True
def tw12269335995811413793:=True
def tw5102354200286321128:=True
def tw5763852565150347814:=True
def tw13681750736153185916:=True
def tw13837209182603415097:=True
def tw4680530045087719114:=True
def tw3355195093342831613:=True
def tw4035415340338733016:=True
def tw8160298792230050815:=True
def tw3948814077475428454:=True
def tw11417136844708609454:=True
def tw6376289950684845324:=True
def tw1214565213382980337:=True
def tw16233958687322042701:=True
def tw3376316683350634418:=True
def tw11926341336682087600:=True
def tw13559056381243368160:=True
def tw6994221255231181543:=True
def tw1272722067878793179:=True
def tw13136349326563886542:=True
def tw6121060344496014918:=True
def tw13767411848197532563:=True
def tw10927455466431738341:=True
def tw13493727760356950804:=True
def tw3770551190335642828:=True
def tw15201791631761714950:=True
def tw10693141910921547649:=True
def tw13509092182710025685:=True
def tw16267133178824833549:=True
def tw10872802247662377126:=True
def tw8079969552113831080:=True
def tw3898994674828362303:=True
def tw11583399203539667696:=True
def tw5458220260077919946:=True
def tw2555830163043910558:=True
def tw14107982020570872629:=True
def tw8290754986965269089:=True
def tw15388294485206386077:=True
def tw5270860956939441758:=True
def tw7063790361261581656:=True
def tw13143280582310403465:=True
def tw6052012943145846957:=True
def tw5279640882157835649:=True
def tw18286305203614502322:=True
def tw11440430423085511719:=True
def tw2132083135807839423:=True
def tw13016293704921372684:=True
def tw3871387578591963219:=True
def tw15534253306746238105:=True
def tw1263337503518325661:=True
def tw921132096899949097:=True
def tw18012321670435494490:=True
def tw8123758624106633119:=True
def tw8559525076853765574:=True
def tw6915452265136839958:=True
def tw9632188273654177575:=True
def tw1270179444318105608:=True
def tw9636642870636892614:=True
def tw14188532766479232352:=True
def tw11179206125376724110:=True
def tw6423091133615852365:=True
def tw3644911027074877411:=True
def tw13949376465918060199:=True
def tw7328356645830889245:=True
def tw11959084084370439767:=True
def tw1650429211997765170:=True
def tw2357191856779178566:=True
def tw10580061071205493647:=True
def tw16140676680175996184:=True
def tw7207021256674391668:=True
def tw4429230768740904263:=True
def tw10488791563824109776:=True
def tw6599789440845925629:=True
def tw2483125805869985831:=True
def tw10858406040704845308:=True
def tw17754983227103219305:=True
def tw3914398869547411075:=True
def tw13960822909772310030:=True
def tw16935163916666141600:=True
def tw5079634004640682550:=True
def tw6776111334965209083:=True
def tw9670688077486421773:=True
def tw9714891033788176116:=True
def tw4161800403965593319:=True
def tw11229343460013635536:=True
def tw10305263299949107302:=True
def tw16728723736119640200:=True
def tw1909302764268774743:=True
def tw1803046213262849526:=True
def tw12251865031004944198:=True
def tw7770536510859559937:=True
def tw2927916422551328550:=True
def tw14281665422958769376:=True
def tw8515483698919225924:=True
def tw13010803514931217560:=True
def tw17044207742664924564:=True
def tw12849999452528107142:=True
def tw13024831666002689813:=True
def tw10106853550359875709:=True
def tw15044163029544453954:=True
def tw6701102994286229541:=True
def tw2769883354751497786:=True
def tw16132706382692083010:=True
def tw7258990352916626630:=True
def tw14937941970537845593:=True
def tw8468948329847918588:=True
def tw14337793108655878826:=True
def tw8754255803509757998:=True
def tw7993166169216618759:=True
def tw1181870361040111908:=True
def tw9515749756241551488:=True
def tw132670301978032171:=True
def tw16978744030706999051:=True
def tw16523152270591931814:=True
def tw15207920941084576464:=True
def tw6697274027315759928:=True
def tw9575797712106948404:=True
def tw6907600613698801950:=True
def tw10944359399750260500:=True
def tw11399852561876534313:=True
def tw11949079077766381924:=True
def tw5176955525762053760:=True
def tw12946620337023636110:=True
def tw11440558383400955556:=True
def tw615468465748890974:=True
def tw12107889063270292364:=True
def tw16455090485901168746:=True
def tw16957089959192499081:=True
def tw16565518024945610570:=True
def tw2117898185820692985:=True
def tw12820651914107291802:=True
def tw679895942487506046:=True
def tw15915332795830175125:=True
def tw12321721106545223477:=True
def tw16993056548651057097:=True
def tw3906869822082808483:=True
def tw487963472323247147:=True
def tw2687056824693409736:=True
def tw14856163606090151047:=True
def tw6462419423705439855:=True
def tw15220836852496613899:=True
def tw8698446520481223666:=True
def tw877342921503321702:=True
def tw9002037440863010875:=True
def tw3348786174750299713:=True
def tw12861048604997924852:=True
def tw4868659602073852695:=True
def tw7578446814229383199:=True
def tw7943263538307468485:=True
def tw16508734977472247532:=True
def tw4309791353137611380:=True
def tw12712319978346016655:=True
def tw4147586282145683143:=True
def tw776592141280228879:=True
def tw2244656557199794916:=True
def tw4679147317001191036:=True
def tw899251780977929996:=True
def tw16987571854676795773:=True
def tw9442671712543251771:=True
def tw2065678899414038787:=True
def tw7064083936999382526:=True
def tw16551105970828811469:=True
def tw5801101676130106801:=True
def tw13811852425214121326:=True
def tw14244658646685818340:=True
def tw6517261302153158554:=True
def tw17442689856446712907:=True
def tw6165033082839454105:=True
def tw840130829936132068:=True
def tw3969560196254029996:=True
def tw9708042801237068079:=True
def tw2449352482752713264:=True
def tw17636844296020583289:=True
def tw7732657148287324806:=True
def tw9136645896369448575:=True
def tw6948658853114138788:=True
def tw13521187475012605737:=True
def tw6798054364591870534:=True
def tw9199982917079463559:=True
def tw14234882336043823655:=True
def tw18323648914137190300:=True
def tw623660433708588244:=True
def tw17592344179006213480:=True
def tw2278783556497754135:=True
def tw15892743546074179670:=True
def tw11174242552182734806:=True
def tw7919443083502724851:=True
def tw16333060131232156457:=True
def tw5712429120883206466:=True
def tw5584559904159275539:=True
def tw8838413985472714581:=True
def tw4244474569896373488:=True
def tw1467620101837025088:=True
def tw5273194792309132127:=True
def tw9604894056776341226:=True
def tw6804173824092481041:=True
def tw3161737435325289457:=True
def tw14376074442366002877:=True
def tw15690465192692673358:=True
def tw14701322924310772237:=True
def tw7709568374100529834:=True
def tw3190681738187788667:=True
def tw9779926797834084739:=True
def tw7757637465924237631:=True
def tw7758975690373956113:=True
def tw18104028072277135018:=True
def tw4684536020182590483:=True
def tw8819225128020850370:=True
def tw13835375684160155723:=True
def tw14482685476839801899:=True
def tw9737239303367329650:=True
def tw7921020918451146597:=True
def tw18356899372529883981:=True
def tw7456654495322310247:=True
def tw17324959805731771841:=True
def tw12361717280461880586:=True
def tw8573574692437690506:=True
def tw1549285653380547876:=True
def tw13143025576760530484:=True
def tw6332291678106582100:=True
def tw132654590037309146:=True
def tw2787190238597722516:=True
def tw4502211832764766660:=True
def tw7910456550703600405:=True
def tw4916189172749460218:=True
def tw4487251463806314960:=True
def tw10687606545098192697:=True
def tw12631211510401792073:=True
def tw15933908691447995739:=True
def tw13251404474874816736:=True
def tw12928761717145687435:=True
def tw11515322489033047486:=True
def tw3015321051912651714:=True
def tw11974702078721071305:=True
def tw1461347275472923015:=True
def tw11322797442552443918:=True
def tw16719176900629883232:=True
def tw18111852512088348321:=True
def tw9568716477281702234:=True
def tw12794530544609851579:=True
def tw658018979294292912:=True
def tw124469649324281248:=True
def tw5035458192467453737:=True
def tw4979985167232756543:=True
def tw10177816639197834937:=True
def tw5926603378416290160:=True
def tw9927146075193130440:=True
def tw320108977218228085:=True
def tw15245220525077636792:=True
def tw2913892267710841774:=True
def tw3529182709844039391:=True
def tw1659568507735970308:=True
def tw6159960759981374371:=True
def tw4239438380058771831:=True
def tw17418186639370433563:=True
def tw4692531730724150663:=True
def tw15058109042088999661:=True
def tw5878061021011539571:=True
def tw1812894803067001051:=True
def tw9408514797563630870:=True
def tw957501101477378479:=True
def tw17613919409334165643:=True
def tw582905484140178267:=True
def tw7297838448593997216:=True
def tw11670639184350862404:=True
def tw7245467990034511418:=True
def tw13019397602148476164:=True
def tw17487497083591547892:=True
def tw6343018358378923940:=True
def tw11997325457145087302:=True
def tw2914839899004139128:=True
def tw11490820470639542283:=True
def tw791342978787494450:=True
def tw1913520176700027886:=True
def tw10200198533705683607:=True
def tw9727083589063619490:=True
def tw4424888960061013530:=True
def tw16808073271088696556:=True
def tw17670006608102320438:=True
def tw15896421793028987268:=True
def tw14704740885808393887:=True
def tw12696742081566747810:=True
def tw5237012556389826870:=True
def tw10333427963202783578:=True
def tw16561246880560877419:=True
def tw2266548745203656:=True
def tw5466121432272964936:=True
def tw16416920092932014406:=True
def tw16820771826104732644:=True
def tw17861548567262565468:=True
def tw11221761201642912200:=True
def tw9954704323666364873:=True
def tw2900119898732239771:=True
def tw11745508161785072939:=True
def tw1340780317752551681:=True
def tw16173595657943475743:=True
def tw11695105185135203291:=True
def tw709329135521683501:=True
def tw12243172750558191639:=True
def tw13560994119187267751:=True
def tw17031081312014672665:=True
def tw9409274391359549815:=True
def tw566189879350247132:=True
def tw12951204648363323563:=True
def tw1396645646722036556:=True
def tw13651414794343192631:=True
def tw336453241965841855:=True
def tw5681475053039102275:=True
def tw11305838723336561807:=True
def tw15756241074001840764:=True
def tw10480015816774015350:=True
def tw7158764094863060572:=True
def tw10205308611037370844:=True
def tw10638529058353004109:=True
def tw15525219969862452168:=True
def tw2716681613360032186:=True
def tw15692730233682957912:=True
def tw4943757499734703243:=True
def tw7559635764834743304:=True
def tw11926705099541172934:=True
def tw2043099507954013223:=True
def tw10310539438276354682:=True
def tw10416695527823283928:=True
def tw5724028067381305371:=True
def tw6178961468977952111:=True
def tw14937780003556056604:=True
def tw16002227493148823599:=True
def tw8526372081268817302:=True
def tw6297487319885635742:=True
def tw8450825375323490504:=True
def tw13540568097318726864:=True
def tw7037544670879665236:=True
def tw6718583363405834748:=True
def tw11029723349794117313:=True
def tw13674871244024693207:=True
def tw11285348008653765842:=True
def tw10287943409238295462:=True
def tw12902351786266582171:=True
def tw16382148977508407393:=True
def tw12200125984450835391:=True
def tw5389268535443639432:=True
def tw13010380608085116378:=True
def tw14440682947437493241:=True
def tw17235292604841767226:=True
def tw8444428907281020333:=True
def tw8888880148204528241:=True
def tw10451807674344788540:=True
def tw3845851013897717687:=True
def tw16353099344077192195:=True
def tw6392966663838341797:=True
def tw15373270305160673139:=True
def tw1370656823701776107:=True
def tw4914884824413035233:=True
def tw16668748588052821309:=True
def tw2771614992522611969:=True
def tw17877548774695520194:=True
def tw7311740200517035894:=True
def tw4026811004203746545:=True
def tw8752157216172276287:=True
def tw14170904423750657752:=True
def tw895339249717870682:=True
def tw4184312114531835874:=True
def tw14078578510040559732:=True
def tw16004222560526706902:=True
def tw4124590833237649811:=True
def tw2347861948424254561:=True
def tw10234740624414185112:=True
def tw16283582374406454386:=True
def tw16194343817989935233:=True
def tw9435845390695281433:=True
def tw2573049253295539657:=True
def tw16757464210490940429:=True
def tw2627180348512694313:=True
def tw4115588675298761816:=True
def tw6732079368446945888:=True
def tw16494935262687410070:=True
def tw9917290771852425089:=True
def tw121445594322378392:=True
def tw9658541435713475250:=True
def tw16153889933559320174:=True
def tw7338129835637246838:=True
def tw42818871389061478:=True
def tw8029531963547946809:=True
def tw2737717391668771550:=True
def tw7328175494665527836:=True
def tw5285720858665228695:=True
def tw18278781834138816723:=True
def tw17481955413479991814:=True
def tw16740607155908309439:=True
def tw9349753507727913666:=True
def tw1914203382294303703:=True
def tw1218902905758211322:=True
def tw17217092654573710018:=True
def tw7593794420577016299:=True
def tw1372235792993264827:=True
def tw13222631494737830086:=True
def tw8721385626787300934:=True
def tw5782109863033210313:=True
def tw15981418553133876717:=True
def tw1842686139571067074:=True
def tw1512649776041672004:=True
def tw1974418854104045195:=True
def tw12443519956673535950:=True
def tw7359104251859865446:=True
def tw8504207519482496552:=True
def tw10162687547400194934:=True
def tw6308130586675944645:=True
def tw14114830275220540639:=True
def tw4531920489323484523:=True
def tw15175781440059120061:=True
def tw6230832272429424877:=True
def tw2990173077688025803:=True
def tw13365648825143027249:=True
def tw10530903520824258788:=True
def tw13997434138703030660:=True
def tw15303805363130550577:=True
def tw14322860005639005072:=True
def tw583542257280077451:=True
def tw9650026295095736225:=True
def tw9902884297687105354:=True
def tw442601529881451706:=True
def tw11768988258049033896:=True
def tw5609157850366313820:=True
def tw3926628180020410150:=True
def tw11131586953670123652:=True
def tw15942246622108235189:=True
def tw5869479720730142089:=True
def tw16834389273166829781:=True
def tw16462373133744941946:=True
def tw13111388138145026140:=True
def tw5305628818917838712:=True
def tw2891287100684761975:=True
def tw12463612562702202030:=True
def tw3471916989230284954:=True
def tw8806392557750401429:=True
def tw2102774070237072784:=True
def tw1466366482496038718:=True
def tw15422432615779458987:=True
def tw1286882035880757708:=True
def tw17139087344740670482:=True
def tw3299688472781464803:=True
def tw10846997867117747670:=True
def tw17511685032169064297:=True
def tw13021946822405253431:=True
def tw2398352934657178873:=True
def tw8632711136708351474:=True
def tw3796933346098178427:=True
def tw15917234551543823746:=True
def tw10768080034560056761:=True
def tw7062731965104557610:=True
def tw11828375877473360975:=True
def tw7283210773081036935:=True
def tw14253343682164250459:=True
def tw1823542176300797075:=True
def tw11918461509880076036:=True
def tw12910002043624440695:=True
def tw15530956105357969598:=True
def tw7231335242819984003:=True
def tw354931239746693766:=True
def tw15533690296294068244:=True
def tw11548258052251392715:=True
def tw3597211802059158296:=True
def tw7361649731313630555:=True
def tw13026268773916070222:=True
def tw9367371385146359289:=True
def tw15864184583650243319:=True
def tw13739648996926207454:=True
end PySem.W.Fast
set_option maxRecDepth 100000
open PySem renaming wpAny_bind->U0,wpAny_pure->U2,Value->U8,Shared->Vc,wpAny->Vq,sizeLine->Vz,Addr->VJ,SetTable->VO,mem_of_lookup->VQ,wpAny_setState_of->VV,mainGlobals->VX,Around->VZ,Program->Wh,sizeLine_eq->WB,World->Xg,evalArgs_none->aaK
open PySem.Heap renaming get?_push_of_some->U1,get?_push_size->U9,lt_size->Vu,get?_update_other->VL,size_push->Wi,get?_update_self->Wt,SameBut->WL,get?_push_ne->X7,size_update->YZ,get?_update_ne->Zd,NewExcOf->aaT
open List renaming length_append->U3,mem_cons_self->U4,mem_cons_of_mem->U5,mem_map->U6,all_eq_true->U7,mem_append_left->Va,length_cons->Vb,mem_append->Vd,map_cons->Vg,mem_append_right->Vh,map_append->Vk,getElem?_eq_some_iff->Vl,mem_cons->Vn,mem_map_of_mem->Vo,getElem_mem->Vp,getElem?_map->Vs,map_map->Vv,append_assoc->Vw,mem_singleton->Vx,lookup_cons->Vy,append_nil->VA,mem_filter->VC,map_congr_left->VE,length_nil->VH,replicate->VI,length_drop->VM,mem_of_getElem?->VN,nil_append->VP,length_take->VS,all_cons->VU,nodup_cons->VW,take_of_length_le->V2,mem_range->V3,range->V5,length_singleton->V6,map_nil->V7,mem_of_mem_take->Wk,findIdx?_eq_some_iff_getElem->Wo,zip_cons_cons->Wq,find?_cons->Wv,size_toArray->Ww,find?_eq_none->WD,drop_eq_getElem_cons->WE,ext_getElem->WJ,any_eq_true->WK,nodup_append->WM,not_mem_nil->WR,cons_append->WS,getElem_of_mem->WT,count_append->WV,map_take->WZ,getElem?_eq_none->W2,pairwise_cons->W4,mapM_cons->W9,map_eq_nil_iff->Xf,perm_ext_iff_of_nodup->Xh,getElem_map->Xk,length_filter_le->Xp,filter_append->Xq,length->Xr,nodup_nil->Xt,mem_of_find?_eq_some->Xu,getElem?_cons_zero->XF,filter_eq_self->XG,drop_eq_nil_of_le->XQ,length_pos_of_mem->XR,filter_eq_nil_iff->XS,forIn_cons->XW,of_mem_zip->XX,take_append_drop->X1,singleton_append->X4,pairwise_map->X9,length_range->Ya,exists_cons_of_ne_nil->Yd,mem_iff_getElem->Yf,forall_mem_cons->Yg,mem_flatMap->Yo,cons_ne_nil->Yp,map_id->Yr,length_erase_of_mem->Yw,foldl_cons->Yy,count_pos_iff->YE,any_eq_false->YK,flatMap_cons->YQ,drop_left->YS,drop_drop->YT,toArray->YW,getElem?_set_ne->Y1,count_singleton->Y6,length_pos_iff->Zf,length_eraseIdx_of_lt->Zk,mem_filterMap->Zn,findIdx?_cons->Zo,all_nil->Zp,set_cons_zero->Zu,set_cons_succ->Zv,getElem?_eq_none_iff->Zx,findIdx?_eq_none_iff->Zz,lt_irrefl->ZA,pairwise_iff_getElem->ZC,forIn_nil->ZE,extract_eq_drop_take->ZF,ext_getElem?->ZH,lookup->Z0,length_eq_zero_iff->Z6,getElem?_cons_succ->aab,getElem?_set_self->aai,drop_of_length_le->aaj,range_succ_eq_map->aak,pairwise_lt_range->aaq,all_map->aaw,countP_map->aaB,dropLast_concat->aaF,drop_zero->aaG,take_succ->aaH,replicate_succ->aaJ,take_succ_cons->aaM,filterMap_cons->aaN,takeWhile_cons->aaP,perm_iff_count->aaQ,lt_trans->aaU
open Bool renaming and_eq_true->Ve,false_eq_true->Vi,eq_iff_iff->WQ,not_true->WW,not_false->Xc,false_ne_true->Xm,false_and->XK,or_eq_true->XY,true_and->X8,and_false->YR,or_eq_false_iff->Y4,not_eq_true'->ZZ,and_true->aaa
open Array renaming getElem?_eq_getElem->Vf,getD_eq_getD_getElem?->VG,size_map->Wd,length_toList->Ws,getD->WU,getElem_of_mem->W6,getElem?_eq_some_iff->Yc,mem_toList_iff->Ye,getElem?_push->Yq,forIn_toList->YA,getElem?_toList->YV,getElem?_eq_none_iff->Zl,getElem_mem->ZM,toList_push->ZP,toList_map->aaf,getElem?_extract->aap,toList_filterMap->aar,toList_extract->aaE
open Option renaming map_eq_some_iff->Vj,isSome_iff_exists->V9,bind_eq_some_iff->W7,getD_some->Xi,bind_some->Xl,join_some->XJ,getD_none->aad,map_eq_none_iff->aau
open Nat renaming le_refl->Vm,le_trans->Vt,ne_of_lt->VB,lt_of_lt_of_le->VF,zero_le->VK,lt_succ_of_lt->Wa,ne_of_gt->We,lt_irrefl->WG,lt_succ_self->WH,lt_trans->Xa,le_succ->Xe,pow_succ->X0,add_assoc->X6,le_of_lt->Ys,le_of_eq->Yt,le_add_left->YB,reduceAdd->YF,mod_lt->YN,min_le_right->YY,le_add_right->Y0,mul_le_mul_right->Y5,lt_of_le_of_lt->Zm,add_zero->Zq,succ_pos->Zr,add_sub_cancel->Zt,lt_trichotomy->ZT,reduceSub->aac,succ_le_succ->aae,mod_eq_of_lt->aah,lt_or_ge->aax,pow_le_pow_right->aaD,sub_self->aaY,mul_comm->aaZ,succ_mul->aa0
open PySem.Paired renaming length->Vr
open PySem.W renaming Frag->VD,instObj->V8,emptyDict->Wb,findIn->Wc,keepIn->Wj,nsIn->Wm,fnOf->W3,codeIn->XM,plainGet->Yn,isFn->Yu,cellsFrom_some->YH,hasDictIn->YL,plainGet_of->Za,makesIn->Zb,lookIn->Zy,plainOver->ZI,takerIn->aav,callWith_K0->aaI,callWith_K->aaR,codeRec_of->aaS,mg_of->aaW,handedIn->aa2
open PySem.SetTable renaming insertAt->VR,runEnd->VT,bits->VY,below->V4,leap->Wg,turns->WY,Probe->Xb,grown->Xd,advance->XI,fresh->Ym,layClean->YO,sizeAbove->Zs,has->aaz,fill->aaV
open PySem.Builtin.SmallTypes renaming nextOf->V0,ownedTupleIsFree->V1,ownedTupleHandOut->Yl
open Classical renaming propDecidable->Wf,byContradiction->WX,skolem->aag
open PySem.Around renaming under_plainId->Wl
open PySem.Value renaming none->Wr,ref->W5,str->YU,builtin->Y7,type->ZV,int->aa5
open PySem.Heap.SameBut renaming update->Wu
open PySem.Obj renaming mapSeq->Wx,data_mapFields->Xn,isFreed_of_fields->YX,cls_mapFields->ZS,mapFields->Z7,data_mapDictKeys->aaC,putSet->aaX
open PyProof.Rows renaming slot_tuple_getitem->Wy,callWith_type1->XT,lt_str->aaL
open Function renaming comp_def->Wz
open Ne renaming symm->WA
open PySem.Str renaming ofString->WC
open PySem.NameKind renaming free->WI,cell->Z1
open Option.some renaming inj->WN
open List.cons renaming inj->W8
open PySem.SeqAt renaming EqAt->Xj
open Int renaming emod_lt_of_pos->Xo,toNat_natCast->Xz,emod_nonneg->XA,lt_irrefl->Z4,toNat->aa6
open PySem.Builtin.Slice renaming slicePlaces->Xs,sliceAdjust->Yj,sliceApplied->Zh
open PySem.PassesOwn renaming never->Xv
open PySem.Builtin.Tuple renaming tupleExact->Xw,tupleItemsOf->Yb,tupleHashOf->Yi
open PySem.Builtin.List renaming listTooLong->Xx,listExtendWith->X3,listLengthHint->Ze,listSameRef->ZW
open PySem.F renaming slot_tuple_getattribute->Xy,slot_list_getattribute->XD,slot_zip_getattribute->XH,slot_str_split->XN,slot_tuple_hash->XO,slot_zip_next->XZ,called_set->X2,args_str_split_2->Yv,entry_str_split->Yz,plainAttrs_dict->YC,plainAttrs_list->YD,slot_tuple_iterator_next->YG,plainAttrs_str->YJ,slot_list_append->Y2,slot_list_extend->Y3,slot_dict_setdefault->Y8,kt_typeCall_dict_1->Zi,plain_extend_loop->ZG,slot_tuple_count->ZN,slot_tuple_index->ZO,args_dict_init_2->ZQ,plainAttrs_tuple->ZY,slot_list_count->Z2,entry_dict_init->Z3,args_zip_next_1->Z5,plain_list_iadd->Z8,slot_dict_items->Z9,kt_called_dict->aan,entry_zip_next->aao,slot_dict_get->aay
open PySem.SetTable.probe renaming go->XC
open PySem.Builtin.Dict renaming updateFrom->XE,selfAndRest->ZR,pairItems->aam
open ForInStep renaming yield->XU
open PySem.Calls renaming spliced_nil->X5,call_function_entry->Yk,spliced_cons->Yx,Name_function_global->Zg,callWith_builtin->aal
open PySem.Txt renaming split->Yh,stripChars->Zw,slice->aa4
open PySem.SetTable.layClean renaming free->YI
open PySem.SetTable.below renaming go->YM
open PySem.Shared renaming TypeIs->Y9
open PySem.Builtin.Str renaming strSliceIndices->Zc
open PySem.Manifest.ParamKind renaming posOnly->Zj
open False renaming elim->ZJ
open PySem.AutoSeq1 renaming sub_tuple_tuple->ZK,wpAny_loadPart'->ZL
open List.Pairwise renaming imp_of_mem->ZU,nil->ZX
open PySem.Manifest.Receiver renaming self->aas,none->aat
open PySem.SetTable.sizeAbove renaming go->aaA
open PySem.W.KT renaming app_list->aaO
open PySem.IsL renaming update->aa1
open Std.Legacy renaming Range->aa3
theorem Lm9 {α:Type _} {β:Type _} {as:List α} (f:α->β):(as.map f).length=as.length:=List.length_map f
theorem Ge9 {α:Type _} {l:List α} {i:Nat} (h:i<l.length):l[i]?=some l[i]:=List.getElem?_eq_getElem h
theorem Gd9 {α:Type _} {l:List α} {i:Nat} {a:α}:l.getD i a=(l[i]?).getD a:=List.getD_eq_getElem?_getD
namespace Om
theorem q1 {a m k:Nat} (h:a<=m:=by with_reducible assumption) (g:m<k:=by decide):a<k:=Zm h g
theorem q2 {a b k:Nat} (h:a<b:=by with_reducible assumption) (e:b=k:=by with_reducible assumption):a<k:=e▸h
theorem q3 {a b k:Nat} (h:a<b:=by with_reducible assumption) (e:k=b:=by with_reducible assumption):a<k:=e▸h
theorem q4 {a b m k:Nat} (e:a=b:=by with_reducible assumption) (h:b<=m:=by with_reducible assumption) (g:m<=k:=by decide):a<=k:=Vt (e▸h) g
theorem q5 {a b m k:Nat} (e:b=a:=by with_reducible assumption) (h:b<=m:=by with_reducible assumption) (g:m<=k:=by decide):a<=k:=Vt (e▸h) g
theorem q6 {a m k:Nat} (e:a=m:=by with_reducible assumption) (g:m<=k:=by decide):a<=k:=e▸g
end Om
local macro_rules|`(tactic| omega)=>`(tactic| first|exact Om.q0|exact Om.q1|exact Om.q2|exact Om.q3|exact Om.q4|exact Om.q5|exact Om.q6|lia -abstractProof)
local macro_rules|`(tactic| grind)=>`(tactic| grind -abstractProof)
set_option bootstrap.genMatcherCode false
set_option compiler.extract_closed false
noncomputable section
namespace M
open PySem
abbrev Cs:=List Nat
theorem oz {g:Prop} (h:∀G:Prop,(g->G)->G):g:=h g id
inductive T where
 | b7|bl (b:Bool)|int (i:Int)|str (s:Cs)|tup (xs:List T)|lst (xs:List T)|aU (ks:List (T × T))|obj (c:Str) (fs:List (Str × T))|ref (n:Nat)|cl (c:U8)
abbrev aa:=List T
abbrev Fr:=List (Option T)
noncomputable def at_ {α:Type}:List α->Nat->Option α
 | [],_=>none
 | c::L,n=>if n=L.length then some c else at_ L n
noncomputable def put {α:Type}:List α->Nat->α->List α
 | [],_,_=>[]
 | c::L,n,d=>if n=L.length then d::L else c::put L n d
inductive R (α:Type) where
 | ok (a:α) (L:aa)|bad
noncomputable def R.bind {α β:Type}:R α->(α->aa->R β)->R β
 | .ok a L,f=>f a L
 | .bad,_=>.bad
theorem R.of {α β:Type} {r:R α} {f:α->aa->R β} {b L} (h:r.bind f=.ok b L):∃a L1,r=.ok a L1/\f a L1=.ok b L:=by
 cases r with
 | ok a L1=>exact⟨a,L1,rfl,h⟩
 | bad=>cases h
inductive O where
 | nx (φ:Fr) (L:aa)|rt (t:T) (L:aa)|bk (φ:Fr) (L:aa)|ct (φ:Fr) (L:aa)|bad
noncomputable def O.of {α:Type} (r:R α) (f:α->aa->O):O:=match r with
 | .ok a L=>f a L
 | .bad=>.bad
abbrev SE:=Fr->aa->R T
abbrev ST:=Fr->aa->R Bool
abbrev SA:=Fr->aa->R (List T)
abbrev SS:=Fr->aa->O
abbrev Fn:=List T->aa->R T
abbrev SI:=Fr->aa->R (List T × (aa->Prop))
noncomputable def vw (L:aa):T->T
 | .ref n=>(at_ L n).getD .b7
 | t=>t
noncomputable def lim:Nat:=16777216
noncomputable def b8 {α:Type} (c:Prop) [Decidable c] (r:R α):R α:=if c then r else .bad
noncomputable def mk (fz:Bool) (t:T) (L:aa):R T:=if fz=true then .ok t L else .ok (.ref L.length) (t::L)
noncomputable def eC (fz:Bool) (xs:List T) (L:aa):R T:=b8 (xs.length<=lim) (mk fz (.lst xs) L)
noncomputable def lift (o:Option T) (L:aa):R T:=match o with
 | some t=>.ok t L
 | none=>.bad
noncomputable def dat:Nat->T->Bool
 | _+1,.b7=>true
 | _+1,.bl _=>true
 | _+1,.int _=>true
 | _+1,.str _=>true
 | n+1,.tup xs=>xs.all (dat n)
 | n+1,.lst xs=>xs.all (dat n)
 | _,_=>false
noncomputable def ou (f:T->T->Bool):List T->List T->Bool
 | [],[]=>true
 | a::r,b::q=>f a b && ou f r q
 | _,_=>false
noncomputable def vI:Nat->T->T->Bool
 | _+1,.b7,.b7=>true
 | _+1,.bl a,.bl b=>a == b
 | _+1,.bl a,.int b=>(if a then 1 else 0) == b
 | _+1,.int a,.bl b=>a == (if b then 1 else 0)
 | _+1,.int a,.int b=>a == b
 | _+1,.str a,.str b=>a == b
 | n+1,.tup a,.tup b=>ou (vI n) a b
 | n+1,.lst a,.lst b=>ou (vI n) a b
 | _,_,_=>false
noncomputable abbrev eqT:T->T->Bool:=vI 8
noncomputable def kZ:T->Bool
 | .int _=>true
 | .str _=>true
 | _=>false
noncomputable def kd:Nat->T->Bool
 | n+1,.tup xs=>xs.all (kd n)
 | _+1,t=>kZ t
 | 0,_=>false
noncomputable def E7:T->Bool
 | .tup xs=>xs.all (kd 6)
 | _=>false
noncomputable def gL (ks:List T):Bool:=ks.all kZ || ks.all E7
noncomputable def dR (ks:List (T × T)) (y:T):Prop:=gL (y::ks.map (·.1))=true
noncomputable instance (ks:List (T × T)) (y:T):Decidable (dR ks y):=by unfold dR;exact inferInstance
open Classical in
def dG (ks:List (T × T)) (k:T):Option T:=(ks.find? fun p=>decide (p.1=k)).map (·.2)
open Classical in
def dput (ks:List (T × T)) (k v:T):List (T × T) :=
 if (ks.any fun p=>decide (p.1=k))=true then ks.map (fun p=>if p.1=k then (p.1,v) else p) else ks++[(k,v)]
noncomputable def vJ (i j:Int):Prop:=(-(2 ^ 64)<i/\i<2 ^ 64)\/(-(2 ^ 64)<j/\j<2 ^ 64)
instance (i j:Int):Decidable (vJ i j):=Wf _
noncomputable def yk (j:Int):Prop:=0<j/\j<1073741824
instance (j:Int):Decidable (yk j):=Wf _
noncomputable def E8 (i j:Int):Prop:=0<=j/\j<=1000000/\i.natAbs<2 ^ 64
instance (i j:Int):Decidable (E8 i j):=Wf _
noncomputable def t5 (j:Int):Prop:=-(2 ^ 62)<=j/\j<=1000000
instance (j:Int):Decidable (t5 j):=Wf _
def oI (op:Operator) (i j:Int) (L:aa):R T:=match op with
 | .Add=>.ok (.int (i+j)) L
 | .Sub=>.ok (.int (i - j)) L
 | .Mult=>b8 (vJ i j) (.ok (.int (i * j)) L)
 | .FloorDiv=>b8 (yk j) (.ok (.int (i / j)) L)
 | .Mod=>b8 (0<j) (.ok (.int (i % j)) L)
 | .Pow=>b8 (E8 i j) (.ok (.int (i ^ j.toNat)) L)
 | _=>.bad
def oS (op:Operator) (a:Cs) (y:T) (L:aa):R T:=match y with
 | .str b=>match op with
  | .Add=>b8 (a.length+b.length<=lim) (.ok (.str (a++b)) L)
  | _=>.bad
 | .int j=>match op with
  | .Mult=>match a with
   | [ch]=>b8 (t5 j) (.ok (.str (VI j.toNat ch)) L)
   | _=>.bad
  | _=>.bad
 | _=>.bad
def aZ (fz:Bool) (op:Operator) (x y:T) (L:aa):R T:=match vw L x with
 | .int i=>match vw L y with
  | .int j=>oI op i j L
  | _=>.bad
 | .str a=>oS op a (vw L y) L
 | .lst a=>match vw L y with
  | .lst b=>match op with
   | .Add=>eC fz (a++b) L
   | _=>.bad
  | _=>.bad
 | _=>.bad
noncomputable def ag (op:Operator) (x y:T) (L:aa):R T:=match op,x,y with
 | .Add,.int i,.int j=>.ok (.int (i+j)) L
 | .Sub,.int i,.int j=>.ok (.int (i - j)) L
 | _,_,_=>.bad
noncomputable def E9 (x y:T) (L:aa):R Bool:=b8 (dat 8 (vw L x)=true/\dat 8 (vw L y)=true) (.ok (eqT (vw L x) (vw L y)) L)
noncomputable def Mt (x y:T) (L:aa):R Bool:=match x,y with
 | .int i,.int j=>.ok (i != j) L
 | .str a,.str b=>.ok (a != b) L
 | _,_=>.bad
noncomputable def Mu (x y:T) (L:aa):R Bool:=match x,y with
 | .int i,.int j=>.ok (decide (i<j)) L
 | .str a,.str b=>.ok (decide (a<b)) L
 | _,_=>.bad
noncomputable def Mw (x y:T) (L:aa):R Bool:=match x,y with
 | .int i,.int j=>.ok (decide (j<i)) L
 | _,_=>.bad
noncomputable def Fb (x y:T) (L:aa):R Bool:=match x,y with
 | .int i,.int j=>.ok (decide (i<=j)) L
 | _,_=>.bad
def oA (x y:T) (L:aa):R Bool:=match vw L y with
 | .str b=>match x with
  | .str [ch]=>.ok (decide (ch∈b)) L
  | _=>.bad
 | .lst ys=>b8 (dat 8 x=true/\ys.all (dat 8)=true) (.ok (ys.any fun y=>eqT y x) L)
 | .tup ys=>b8 (dat 8 x=true/\ys.all (dat 8)=true) (.ok (ys.any fun y=>eqT y x) L)
 | .aU ks=>b8 (dR ks x) (.ok (dG ks x).isSome L)
 | _=>.bad
noncomputable def II:T->Bool
 | .b7=>true
 | _=>false
noncomputable def R.map {α β:Type} (f:α->β):R α->R β
 | .ok a L=>.ok (f a) L
 | .bad=>.bad
def BZ (op:CmpOp) (x y:T) (L:aa):R Bool:=match op with
 | .Eq=>E9 x y L
 | .NotEq=>Mt x y L
 | .Lt=>Mu x y L
 | .Gt=>Mw x y L
 | .LtE=>Fb x y L
 | .GtE=>Fb y x L
 | .In=>oA x y L
 | .NotIn=>(oA x y L).map (!·)
 | .Is=>match y with
  | .b7=>.ok (II x) L
  | _=>.bad
 | .IsNot=>match y with
  | .b7=>.ok (!II x) L
  | _=>.bad
def cmp (op:CmpOp) (x y:T) (L:aa):R T:=(BZ op x y L).map .bl
noncomputable def place (n:Nat) (i:Int):Option Nat:=if 0<=i then (if i<n then some i.toNat else none) else if -(n:Int)<=i then some (i+n).toNat else none
def ix (x y:T) (L:aa):R T:=match vw L x with
 | .str s=>match y with
  | .int i=>lift (((place s.length i).bind fun k=>s[k]?).map fun ch=>.str [ch]) L
  | _=>.bad
 | .tup xs=>match y with
  | .int i=>lift ((place xs.length i).bind fun k=>xs[k]?) L
  | _=>.bad
 | .lst xs=>match y with
  | .int i=>lift ((place xs.length i).bind fun k=>xs[k]?) L
  | _=>.bad
 | .aU ks=>b8 (dR ks y) (lift (dG ks y) L)
 | _=>.bad
noncomputable def clip (n d:Nat):Option Int->Nat
 | none=>d
 | some i=>if i<0 then (i+n).toNat else min i.toNat n
noncomputable def cut {α:Type} (xs:List α) (lo hi:Option Int):List α:=(xs.drop (clip xs.length 0 lo)).take (clip xs.length xs.length hi - clip xs.length 0 lo)
noncomputable def jd (fz:Bool) (x:T) (lo hi:Option Int) (L:aa):R T:=match vw L x with
 | .str s=>match lo,hi with
  | some i,some j=>b8 (0<=i/\i<=j/\j<=s.length) (.ok (.str ((s.drop i.toNat).take (j - i).toNat)) L)
  | _,_=>.bad
 | .tup xs=>.ok (.tup (cut xs lo hi)) L
 | .lst xs=>eC fz (cut xs lo hi) L
 | _=>.bad
noncomputable def fld (f:Str) (x:T) (L:aa):R T:=match vw L x with
 | .obj _ fs=>lift (fs.lookup f) L
 | _=>.bad
noncomputable def v (i:Nat):SE:=fun φ L=>lift ((φ[i]?).join) L
noncomputable def c (x:T):SE:=fun _ L=>.ok x L
noncomputable def no {α:Type}:Fr->aa->R α:=fun _ _=>.bad
noncomputable def iS:List SE->SA
 | [],_,L=>.ok [] L
 | m::ms,φ,L=>(m φ L).bind fun t L1=>(iS ms φ L1).bind fun ts L2=>.ok (t::ts) L2
noncomputable def b1 (a:SE) (f:T->aa->R T):SE:=fun φ L=>(a φ L).bind f
noncomputable def b2 (a b:SE) (f:T->T->aa->R T):SE:=fun φ L=>(a φ L).bind fun x L1=>(b φ L1).bind fun y L2=>f x y L2
noncomputable def neg (x:T) (L:aa):R T:=match x with
 | .int i=>.ok (.int (-i)) L
 | _=>.bad
def xg (op oQ:CmpOp) (a b d:SE):SE:=fun φ L=>(a φ L).bind fun x L1=>(b φ L1).bind fun y L2=>(BZ op x y L2).bind fun k L3=>if k=true then (d φ L3).bind fun z L4=>cmp oQ y z L4 else .ok (.bl false) L3
noncomputable def tv (a:SE):ST:=fun φ L=>(a φ L).bind fun x L1=>match x with
 | .bl b=>.ok b L1
 | _=>.bad
noncomputable def B0 (a b:ST):ST:=fun φ L=>(a φ L).bind fun x L1=>if x=true then b φ L1 else .ok false L1
noncomputable def Mx (a b:ST):ST:=fun φ L=>(a φ L).bind fun x L1=>if x=true then .ok true L1 else b φ L1
noncomputable def fF (a:ST):ST:=fun φ L=>(a φ L).map (!·)
noncomputable def B1 (a b:SE):SE:=fun φ L=>(tv a φ L).bind fun x L1=>if x=true then b φ L1 else .ok (.bl false) L1
noncomputable def My (a b:SE):SE:=fun φ L=>(tv a φ L).bind fun x L1=>if x=true then .ok (.bl true) L1 else b φ L1
noncomputable def pW (a:SE):SE:=fun φ L=>(tv a φ L).map fun b=>.bl (!b)
noncomputable def yes:ST:=fun _ L=>.ok true L
noncomputable def M3 (k:ST) (a b:SE):SE:=fun φ L=>(k φ L).bind fun x L1=>if x=true then a φ L1 else b φ L1
noncomputable def tup (ms:List SE):SE:=fun φ L=>(iS ms φ L).bind fun ts L1=>.ok (.tup ts) L1
noncomputable def lst (fz:Bool) (ms:List SE):SE:=fun φ L=>(iS ms φ L).bind fun ts L1=>eC fz ts L1
noncomputable def xh (fz:Bool):SE:=fun _ L=>mk fz (.aU []) L
noncomputable def Fd:Option SE->Fr->aa->R (Option Int)
 | none,_,L=>.ok none L
 | some m,φ,L=>(m φ L).bind fun t L1=>match t with
  | .int i=>.ok (some i) L1
  | _=>.bad
noncomputable def sl (fz:Bool) (a:SE) (lo hi:Option SE):SE:=fun φ L=>(a φ L).bind fun x L1=>(Fd lo φ L1).bind fun i L2=>(Fd hi φ L2).bind fun j L3=>jd fz x i j L3
noncomputable def ae (f:Fn) (ms:List SE):SE:=fun φ L=>(iS ms φ L).bind f
noncomputable def pX (m:Str) (f:Str->Option Fn) (a:SE) (ms:List SE):SE:=fun φ L=>(a φ L).bind fun x L1=>match vw L1 x with
 | .obj c fs=>match f c with
  | some F=>if (fs.lookup m).isNone=true then (iS ms φ L1).bind fun ts L2=>F (x::ts) L2 else .bad
  | none=>.bad
 | _=>.bad
inductive Ty where
 | s|l|t|d
noncomputable def Ee (L:aa) (t:T):Option Ty:=match vw L t with
 | .str _=>some .s
 | .lst _=>some .l
 | .tup _=>some .t
 | .aU _=>some .d
 | _=>none
noncomputable def aN (f:Ty->Option (T->Fn)) (a:SE) (ms:List SE):SE:=fun φ L=>(a φ L).bind fun x L1=>match (Ee L1 x).bind f with
 | some F=>(iS ms φ L1).bind fun ts L2=>F x ts L2
 | none=>.bad
open Classical in
def stays (x:T) (L:aa):aa->Prop:=fun L'=>∀n,x=.ref n->at_ L' n=at_ L n
noncomputable def items (x:T) (L:aa):Option (List T):=match vw L x with
 | .str s=>some (s.map fun ch=>.str [ch])
 | .tup xs=>some xs
 | .lst xs=>some xs
 | _=>none
def src (a:SE):SI:=fun φ L=>(a φ L).bind fun x L1=>match items x L1 with
 | some xs=>.ok (xs,stays x L1) L1
 | none=>.bad
noncomputable def upTo (lo:Int) (n:Nat):List T:=(V5 n).map fun(k:Nat)=>.int (lo+k)
noncomputable def t6 (i:Int):Prop:=-(2 ^ 62)<=i/\i<2 ^ 62
instance (i:Int):Decidable (t6 i):=Wf _
def yl (a b:SE):SI:=fun φ L=>(a φ L).bind fun x L1=>(b φ L1).bind fun y L2=>match x,y with
 | .int i,.int j=>b8 (t6 i/\t6 j) (.ok (upTo i (j - i).toNat,fun _=>True) L2)
 | _,_=>.bad
noncomputable def num (n:Nat):List T->List T
 | []=>[]
 | x::r=>.tup [.int n,x]::num (n+1) r
def Mz (a:SE):SI:=fun φ L=>(a φ L).bind fun x L1=>match vw L1 x with
 | .lst xs=>.ok (num 0 xs,stays x L1) L1
 | _=>.bad
noncomputable def zp (xs ys:List T):List T:=(xs.zip ys).map fun p=>.tup [p.1,p.2]
def M4 (a b:SE):SI:=fun φ L=>(src a φ L).bind fun p L1=>(src b φ L1).bind fun q L2=>.ok (zp p.1 q.1,fun L'=>p.2 L'/\q.2 L') L2
noncomputable def prs (ks:List (T × T)):List T:=ks.map fun p=>.tup [p.1,p.2]
def M5 (a:SE):SI:=fun φ L=>(a φ L).bind fun x L1=>match vw L1 x with
 | .aU ks=>.ok (prs ks,stays x L1) L1
 | _=>.bad
inductive Tg where
 | one (i:Nat)|many (is:List Nat)
noncomputable def sets:List Nat->List T->Fr->Fr
 | i::is,t::ts,φ=>sets is ts (φ.set i (some t))
 | _,_,φ=>φ
noncomputable def Tg.set:Tg->T->Fr->Option Fr
 | .one i,t,φ=>some (φ.set i (some t))
 | .many is,.tup ts,φ=>if ts.length=is.length then some (sets is ts φ) else none
 | _,_,_=>none
open Classical in
def compLoop (k:aa->Prop) (tg:Tg) (ts:ST) (m:SE) (ψ:Fr):List T->List T->aa->R (List T)
 | [],acc,L=>if k L then .ok acc L else .bad
 | t::r,acc,L=>if k L/\acc.length<lim then match tg.set t ψ with
   | some ψ1=>(ts ψ1 L).bind fun b L1=>if b=true then (m ψ1 L1).bind fun y L2=>compLoop k tg ts m ψ r (acc++[y]) L2 else compLoop k tg ts m ψ r acc L1
   | none=>.bad
  else .bad
noncomputable def inner (aY:List (Option Nat)) (φ:Fr):Fr:=aY.map fun o=>o.bind fun i=>(φ[i]?).join
def comp (fz:Bool) (s:SI) (aY:List (Option Nat)) (tg:Tg) (ts:ST) (m:SE):SE:=fun φ L=>(s φ L).bind fun u L1=>(compLoop u.2 tg ts m (inner aY φ) u.1 [] L1).bind fun xs L2=>mk fz (.lst xs) L2
noncomputable def O.next (o:O) (f:Fr->aa->O):O:=match o with
 | .nx φ L=>f φ L
 | o=>o
noncomputable def ab:List SS->SS
 | [],φ,L=>.nx φ L
 | s::r,φ,L=>(s φ L).next (ab r)
noncomputable def pass:SS:=fun φ L=>.nx φ L
noncomputable def brk:SS:=fun φ L=>.bk φ L
noncomputable def cnt:SS:=fun φ L=>.ct φ L
noncomputable def gu:SS:=fun _ _=>.bad
noncomputable def asg (tg:Tg) (m:SE):SS:=fun φ L=>O.of (m φ L) fun t L1=>match tg.set t φ with
 | some φ1=>.nx φ1 L1
 | none=>.bad
noncomputable def gd (m:SE):SS:=fun φ L=>O.of (m φ L) fun _ L1=>.nx φ L1
noncomputable def ret (m:SE):SS:=fun φ L=>O.of (m φ L) fun t L1=>.rt t L1
noncomputable def iff (k:ST) (a b:SS):SS:=fun φ L=>O.of (k φ L) fun x L1=>if x=true then a φ L1 else b φ L1
noncomputable def aug (op:Operator) (i:Nat) (m:SE):SS:=fun φ L=>O.of (b2 (v i) m (ag op) φ L) fun t L1=>.nx (φ.set i (some t)) L1
noncomputable def jJ (fs:List (Str × T)) (f:Str) (t:T):List (Str × T):=match fs with
 | []=>[(f,t)]
 | (g,u)::r=>if g=f then (f,t)::r else (g,u)::jJ r f t
noncomputable def t8 (f:Str) (x t:T) (L:aa):Option aa:=match x with
 | .ref n=>match at_ L n with
  | some (.obj c fs)=>if fs.length<200 then some (put L n (.obj c (jJ fs f t))) else none
  | _=>none
 | _=>none
noncomputable def jt (o:SE) (f:Str) (m:SE):SS:=fun φ L=>O.of (m φ L) fun t L1=>O.of (o φ L1) fun x L2=>match t8 f x t L2 with
 | some L3=>.nx φ L3
 | none=>.bad
def jK (x y t:T) (L:aa):Option aa:=match x with
 | .ref n=>match at_ L n with
  | some (.aU ks)=>if ks.length<lim/\dR ks y then some (put L n (.aU (dput ks y t))) else none
  | some (.lst xs)=>match y with
   | .int i=>if 0<=i/\i<xs.length then some (put L n (.lst (xs.set i.toNat t))) else none
   | _=>none
  | _=>none
 | _=>none
def oB (o i m:SE):SS:=fun φ L=>O.of (m φ L) fun t L1=>O.of (o φ L1) fun x L2=>O.of (i φ L2) fun y L3=>match jK x y t L3 with
 | some L4=>.nx φ L4
 | none=>.bad
def Jl (x y:T) (L:aa):R T:=match vw L x with
 | .aU ks=>b8 (dR ks y) (lift (dG ks y) L)
 | _=>.bad
def ym (op:Operator) (o i m:SE):SS:=fun φ L=>O.of (o φ L) fun x L1=>O.of (i φ L1) fun y L2=>O.of (Jl x y L2) fun z L3=>O.of (m φ L3) fun t L4=>O.of (ag op z t L4) fun r L5=>match jK x y r L5 with
 | some L6=>.nx φ L6
 | none=>.bad
noncomputable def rA (k:ST) (b:SS):Nat->SS
 | 0,_,_=>.bad
 | n+1,φ,L=>O.of (k φ L) fun x L1=>if x=true then match b φ L1 with
   | .nx φ2 L2=>rA k b n φ2 L2
   | .ct φ2 L2=>rA k b n φ2 L2
   | .bk φ2 L2=>.nx φ2 L2
   | o=>o
  else .nx φ L1
open Classical in
def forL (k:aa->Prop) (tg:Tg) (b:SS):List T->SS
 | [],φ,L=>if k L then .nx φ L else .bad
 | t::r,φ,L=>if k L then match tg.set t φ with
   | some φ1=>match b φ1 L with
    | .nx φ2 L2=>forL k tg b r φ2 L2
    | .ct φ2 L2=>forL k tg b r φ2 L2
    | .bk φ2 L2=>.nx φ2 L2
    | o=>o
   | none=>.bad
  else .bad
def bG (s:SI) (tg:Tg) (b:SS):SS:=fun φ L=>O.of (s φ L) fun u L1=>forL u.2 tg b u.1 φ L1
mutual
noncomputable def lt (n:Nat):T->Bool
 | .ref k=>decide (k<n)
 | .tup xs=>cb n xs
 | .lst xs=>cb n xs
 | .aU ks=>BO n ks
 | .obj _ fs=>ow n fs
 | _=>true
noncomputable def cb (n:Nat):List T->Bool
 | []=>true
 | x::xs=>lt n x && cb n xs
noncomputable def BO (n:Nat):List (T × T)->Bool
 | []=>true
 | (x,y)::xs=>lt n x && lt n y && BO n xs
noncomputable def ow (n:Nat):List (Str × T)->Bool
 | []=>true
 | (_,y)::xs=>lt n y && ow n xs
end
noncomputable def cf (n0:Nat) (L:aa):Nat->T->Option T
 | 0,_=>none
 | k+1,t=>if lt n0 t=true then some t else match t with
  | .ref n=>match at_ L n with
   | some c=>cf n0 L k c
   | none=>none
  | .tup xs=>(xs.mapM (cf n0 L k)).map .tup
  | .lst xs=>(xs.mapM (cf n0 L k)).map .lst
  | .aU ks=>(ks.mapM fun p=>if lt n0 p.1=true then (cf n0 L k p.2).map fun x=>(p.1,x) else none).map .aU
  | .obj c fs=>(fs.mapM fun p=>(cf n0 L k p.2).map fun x=>(p.1,x)).map (.obj c)
  | _=>none
noncomputable def old (L Lo:aa):Prop:=∀n c,at_ Lo n=some c->at_ L n=some c\/lt L.length c=true
open Classical in
def fin (L:aa) (t:T) (L':aa):R T:=if old L (L'.drop (L'.length - L.length)) then lift (cf L.length L' 9 t) (L'.drop (L'.length - L.length)) else .bad
def run (np nn:Nat) (b:SS):Fn:=fun xs L=>if xs.length=np then match b (xs.map some++VI (nn - np) none) L with
  | .rt t L'=>fin L t L'
  | .nx _ L'=>fin L .b7 L'
  | _=>.bad
 else .bad
def make (cn:Str) (init:Fn):Fn:=fun xs L=>match init (.ref L.length::xs) (.obj cn []::L) with
 | .ok .b7 L'=>fin L (.ref L.length) L'
 | _=>.bad
end M
namespace M
open PySem PySem.Spec PyProof.Rows
noncomputable def bH:Fn:=fun xs L=>match xs with
 | [x]=>match vw L x with
  | .str s=>.ok (.int s.length) L
  | .tup ys=>.ok (.int ys.length) L
  | .lst ys=>.ok (.int ys.length) L
  | _=>.bad
 | _=>.bad
noncomputable def cF (fz:Bool):Fn:=fun xs L=>match xs with
 | [x]=>match vw L x with
  | .tup ys=>eC fz ys L
  | .lst ys=>eC fz ys L
  | .aU ks=>b8 ((ks.map (·.1)).all kZ=true) (eC fz (ks.map (·.1)) L)
  | _=>.bad
 | _=>.bad
noncomputable def iz:Fn:=fun xs L=>match xs with
 | [x]=>match vw L x with
  | .tup ys=>.ok (.tup ys) L
  | .lst ys=>.ok (.tup ys) L
  | _=>.bad
 | _=>.bad
noncomputable def IJ:T->Option Bool
 | .bl b=>some b
 | _=>none
noncomputable def Rt:T->Option Int
 | .int i=>some i
 | _=>none
noncomputable def IK:T->Option Cs
 | .str s=>some s
 | _=>none
noncomputable def Fe {α:Type} (f:T->Option α) (g:List α->T):Fn:=fun xs L=>match xs with
 | [x]=>match vw L x with
  | .lst ys=>lift ((ys.mapM f).map g) L
  | _=>.bad
 | _=>.bad
noncomputable def rH:Fn:=Fe IJ fun bs=>.bl (bs.all id)
noncomputable def xi:Fn:=Fe IJ fun bs=>.bl (bs.any id)
noncomputable def yn:Fn:=fun xs L=>match xs with
 | [.int i,.int j]=>.ok (.int (if j<i then j else i)) L
 | [.str a,.str b]=>.ok (.str (if b<a then b else a)) L
 | _=>.bad
noncomputable def t9:Fn:=fun xs L=>match xs with
 | [.int i]=>b8 (i.natAbs.log2<1920/\(WC (toString i)).cps.toList.length<=lim) (.ok (.str (WC (toString i)).cps.toList) L)
 | _=>.bad
noncomputable def xj:Fn:=fun xs L=>match xs with
 | [.str z]=>match PySem.intText? ⟨z.toArray⟩ with
  | some n=>b8 (z.length<=640) (.ok (.int n) L)
  | none=>.bad
 | _=>.bad
noncomputable def PR (L:aa) (n:String):T->R T
 | .bl _=>if n="bool" then .ok (.bl true) L else if n="int" then .ok (.bl true) L else .bad
 | .int _=>if n="bool" then .ok (.bl false) L else if n="int" then .ok (.bl true) L else .bad
 | _=>.bad
noncomputable def Ru:T->Option String
 | .cl c=>match c with
  | .type n=>some n
  | _=>none
 | _=>none
noncomputable def Uz:Fn:=fun xs L=>match xs with
 | [x,y]=>match Ru y with
  | some n=>PR L n x
  | none=>.bad
 | _=>.bad
noncomputable def toS (z:Cs):Str:=⟨z.toArray⟩
noncomputable def B2:T->Fn:=fun x ts L=>match x,ts with
 | .ref n,[t]=>match at_ L n with
  | some (.lst xs)=>b8 (xs.length<lim) (.ok .b7 (put L n (.lst (xs++[t]))))
  | _=>.bad
 | _,_=>.bad
noncomputable def yo:T->Fn:=fun x ts L=>match x,ts with
 | .ref n,[t]=>match at_ L n,vw L t with
  | some (.lst xs),.lst ys=>b8 (xs.length+ys.length<=lim) (.ok .b7 (put L n (.lst (xs++ys))))
  | some (.lst xs),.tup ys=>b8 (xs.length+ys.length<=lim) (.ok .b7 (put L n (.lst (xs++ys))))
  | _,_=>.bad
 | _,_=>.bad
noncomputable def vK:T->Fn:=fun x ts L=>match vw L x,ts with
 | .lst xs,[t]=>b8 (dat 8 t=true/\xs.all (dat 8)=true) (.ok (.int (xs.countP fun y=>eqT y t:Nat)) L)
 | _,_=>.bad
noncomputable def vL:T->Fn:=fun x ts L=>match vw L x,ts with
 | .tup xs,[t]=>b8 (dat 8 t=true/\xs.all (dat 8)=true) (.ok (.int (xs.countP fun y=>eqT y t:Nat)) L)
 | _,_=>.bad
noncomputable def B3:T->Fn:=fun x ts L=>match x,ts with
 | .tup xs,[t]=>b8 (dat 8 t=true/\xs.all (dat 8)=true) (match xs.findIdx? fun y=>eqT y t with
  | some j=>.ok (.int j) L
  | none=>.bad)
 | _,_=>.bad
noncomputable def jn (sep:Cs):List Cs->Cs
 | []=>[]
 | x::r=>match r with
  | []=>x
  | _::_=>x++sep++jn sep r
noncomputable def lS:T->Fn:=fun x ts L=>match x,ts with
 | .str sep,[t]=>match (items t L).bind fun ys=>ys.mapM IK with
  | some zs=>match vw L t with
   | .str _=>.bad
   | _=>b8 ((zs.map (·.length)).sum+zs.length * sep.length<=16777216) (.ok (.str (jn sep zs)) L)
  | none=>.bad
 | _,_=>.bad
noncomputable def mV (fz:Bool):T->Fn:=fun x ts L=>match x,ts with
 | .str z,[.str y]=>b8 (y≠[]/\((Yh (toS z) (toS y)).all fun s=>decide (s.cps.toList.length<=lim))=true) (eC fz ((Yh (toS z) (toS y)).map fun s=>.str s.cps.toList) L)
 | _,_=>.bad
noncomputable def mW:T->Fn:=fun x ts L=>match x,ts with
 | .str z,[.str y]=>b8 ((Zw (toS z) (toS y)).cps.toList.length<=lim) (.ok (.str (Zw (toS z) (toS y)).cps.toList) L)
 | _,_=>.bad
def je:T->Fn:=fun x ts L=>match vw L x,ts with
 | .aU ks,[y,t]=>b8 (dR ks y) (.ok ((dG ks y).getD t) L)
 | _,_=>.bad
def yp:T->Fn:=fun x ts L=>match x,ts with
 | .ref n,[y,t]=>match at_ L n with
  | some (.aU ks)=>b8 (ks.length<lim/\dR ks y) (match dG ks y with
   | some z=>.ok z L
   | none=>.ok t (put L n (.aU (dput ks y t))))
  | _=>.bad
 | _,_=>.bad
noncomputable def prsOf:List T->Option (List (T × T))
 | []=>some []
 | t::r=>match t,prsOf r with
  | .tup [k,x],some ps=>some ((k,x)::ps)
  | _,_=>none
def rB (ps:List (T × T)):List (T × T):=ps.foldl (fun acc p=>dput acc p.1 p.2) []
def yq (ys:List T) (L:aa):R T:=match prsOf ys with
 | some ps=>b8 (gL (ps.map (·.1))=true/\ps.length<=100000) (.ok (.ref L.length) (.aU (rB ps)::L))
 | none=>.bad
def ic:Fn:=fun xs L=>match xs with
 | [x]=>match vw L x with
  | .lst ys=>yq ys L
  | .tup ys=>yq ys L
  | _=>.bad
 | _=>.bad
abbrev Hp:=VJ->Option (Bool × Obj)
noncomputable def upd (H:Hp) (a:VJ) (x:Bool × Obj):Hp:=fun b=>if b=a then some x else H b
theorem ar {H:Hp} {a x}:upd H a x a=some x:=if_pos rfl
theorem aA {H:Hp} {a b x} (h:b≠a):upd H a x b=H b:=if_neg h
structure G where
 H:Hp
 α:List (VJ × VJ)
 B:Heap
 cls:Str->Option VJ
 w:Xg
noncomputable def G.kn (g:G) (b:Bool) (a:VJ) (o:Obj):Prop:=g.H a=some (b,o)\/(b=true/\g.B.get? a=some o)
noncomputable def ua (p:Option (VJ × VJ)) (a d:VJ):Prop:=p=none\/p=some (a,d)
mutual
noncomputable def hT (w:Xg):T->Int
 | .int i=>hashInt i
 | .str s=>hashStr w ⟨s.toArray⟩
 | .tup xs=>reduceHash (Yi (BP w xs))
 | _=>0
noncomputable def BP (w:Xg):List T->List Int
 | []=>[]
 | x::xs=>hT w x::BP w xs
end
inductive RT (g:G):Option (VJ × VJ)->T->U8->Prop
 | b7:RT g none .b7 .none
 | bl (b):RT g none (.bl b) (.bool b)
 | int (i t):RT g none (.int i) (.int i t)
 | str (s t) (h:s.length<=Vz):RT g none (.str s) (.str ⟨s.toArray⟩ t)
 | ty (n):RT g none (.cl (.type n)) (.type n)
 | own {n C} (h:g.cls n=some C):RT g none (.cl (.ref C)) (.ref C)
 | ref {n p} (h:at_ g.α n=some p):RT g none (.ref n) (.ref p.1)
 | tup {a o its n xs} (hk:g.kn true a o) (hc:o.cls=.type "tuple"/\o.dict=none) (hd:o.data=.seq its n) (hz:xs.length<=Vz) (hl:xs.length=its.size)
   (hi:∀(i:Nat) x v,xs[i]?=some x->its[i]?=some v->RT g none x v):RT g none (.tup xs) (.ref a)
 | lst {p a its n xs} (ht:ua p a a) (hk:g.kn p.isNone a { cls:=.type "list",data:=.seq its n }) (hz:xs.length<=Vz) (hl:xs.length=its.size)
   (hi:∀(i:Nat) x v,xs[i]?=some x->its[i]?=some v->RT g none x v):RT g p (.lst xs) (.ref a)
 | aU {p a o es n ks} (ht:ua p a a) (hk:g.kn p.isNone a o) (hx:o.ExactDict) (hd:o.data=.dict es n) (hz:ks.length<=Vz) (hl:ks.length=es.size) (hn:(ks.map (·.1)).Nodup/\gL (ks.map (·.1))=true) (hs:(a == sysModules)=false)
   (hh:∀(i:Nat) x e,ks[i]?=some x->es[i]?=some e->e.hash=hT g.w x.1) (h1:∀(i:Nat) x e,ks[i]?=some x->es[i]?=some e->RT g none x.1 e.key)
   (h2:∀(i:Nat) x e,ks[i]?=some x->es[i]?=some e->RT g none x.2 e.val):RT g p (.aU ks) (.ref a)
 | obj {p a d C od es n c fs} (ht:ua p a d) (hne:d≠a) (hc:g.cls c=some C) (hk:g.kn p.isNone a (V8 C d)) (rC:g.kn p.isNone d od) (hd:od.data=.dict es n) (hs:StrKeys es) (hu:UniqKeys es)
   (hz:fs.length<=1000) (hn:(fs.map (·.1)).Nodup) (hl:∀f,(fs.lookup f).isSome=(nsFind es f).isSome) (hi:∀f x v,fs.lookup f=some x->nsFind es f=some v->RT g none x v):RT g p (.obj c fs) (.ref a)
structure Le (g g':G):Prop where
 f:∀a o,g.H a=some (true,o)->g'.H a=some (true,o)
 α:∀n p,at_ g.α n=some p->at_ g'.α n=some p
 B:g'.B=g.B
 m:g'.cls=g.cls
 w:g'.w=g.w
theorem Le.refl (g:G):Le g g:=⟨fun _ _ h=>h,fun _ _ h=>h,rfl,rfl,rfl⟩
theorem Le.trans {a b c:G} (x:Le a b) (y:Le b c):Le a c:=⟨fun _ _ h=>y.f _ _ (x.f _ _ h),fun _ _ h=>y.α _ _ (x.α _ _ h),y.B.trans x.B,y.m.trans x.m,y.w.trans x.w⟩
theorem Le.kn {g g':G} (l:Le g g') {a o} (h:g.kn true a o):g'.kn true a o:=by
 rcases h with h|⟨_,h⟩
 ·exact .inl (l.f _ _ h)
 ·exact .inr ⟨rfl,by rw [l.B];exact h⟩
theorem RT.up {g g':G} (l:Le g g') {p:Option (VJ × VJ)} (hp:∀q,p=some q->g'.H q.1=g.H q.1/\g'.H q.2=g.H q.2) {t v} (h:RT g p t v):RT g' p t v:=by
 have kn:∀{p:Option (VJ × VJ)} {a d b o},(∀q,p=some q->g'.H q.1=g.H q.1/\g'.H q.2=g.H q.2)->ua p a d->b=a\/b=d->g.kn p.isNone b o->g'.kn p.isNone b o:=fun {p a d b o} hp ht hb hk=>by
  rcases ht with rfl|rfl
  ·exact l.kn hk
  ·rcases hk with hk|⟨z,_⟩
   ·refine .inl ?_
    rcases hb with rfl|rfl
    ·rw [(hp _ rfl).1];exact hk
    ·rw [(hp _ rfl).2];exact hk
   ·cases z
 have n0:∀q:VJ × VJ,(none:Option (VJ × VJ))=some q->g'.H q.1=g.H q.1/\g'.H q.2=g.H q.2:=fun q z=>by cases z
 induction h with
 | b7=>exact .b7
 | bl b=>exact .bl b
 | int i t=>exact .int i t
 | str s t h=>exact .str s t h
 | ty n=>exact .ty n
 | own h=>exact .own (by rw [l.m];exact h)
 | ref h=>exact .ref (l.α _ _ h)
 | tup hk hc hd hz hl hi ih=>exact .tup (l.kn hk) hc hd hz hl fun i x v e1 e2=>ih i x v e1 e2 n0
 | lst ht hk hz hl hi ih=>exact .lst ht (kn hp ht (.inl rfl) hk) hz hl fun i x v e1 e2=>ih i x v e1 e2 n0
 | aU ht hk hx hd hz hl hn hs hh h1 h2 i1 i2=>exact .aU ht (kn hp ht (.inl rfl) hk) hx hd hz hl hn hs (by rw [l.w];exact hh) (fun i x v e1 e2=>i1 i x v e1 e2 n0) fun i x v e1 e2=>i2 i x v e1 e2 n0
 | obj ht hne hc hk rC hd hs hu hz hn hl hi ih=>exact .obj ht hne (by rw [l.m];exact hc) (kn hp ht (.inl rfl) hk) (kn hp ht (.inr rfl) rC) hd hs hu hz hn hl fun f x v e1 e2=>ih f x v e1 e2 n0
theorem RT.le {g g':G} {t v} (h:RT g none t v) (l:Le g g'):RT g' none t v:=h.up l (fun _ z=>by cases z)
theorem RT.iI {g:G} {p:Option (VJ × VJ)} {i:Int} {v:U8} (h:RT g p (.int i) v):∃t,v=.int i t:=by cases h;exact⟨_,rfl⟩
noncomputable def M6 (g:G) (xs:List T) (its:Array U8):Prop:=xs.length=its.size/\∀(i:Nat) x v,xs[i]?=some x->its[i]?=some v->RT g none x v
theorem RT.cI {g:G} {p:Option (VJ × VJ)} {n:String} {v:U8} (h:RT g p (.cl (.type n)) v):v=.type n:=by cases h;rfl
theorem RT.nI {g:G} {p:Option (VJ × VJ)} {v:U8} (h:RT g p .b7 v):v=.none:=by cases h;rfl
theorem RT.bI {g:G} {p:Option (VJ × VJ)} {b:Bool} {v:U8} (h:RT g p (.bl b) v):v=.bool b:=by cases h;rfl
theorem RT.ju {g:G} {p:Option (VJ × VJ)} {z:Cs} {v:U8} (h:RT g p (.str z) v):∃t,v=.str ⟨z.toArray⟩ t/\z.length<=Vz:=by cases h with|str _ t h=>exact⟨t,rfl,h⟩
theorem RT.sI {g:G} {p:Option (VJ × VJ)} {z:Cs} {v:U8} (h:RT g p (.str z) v):∃t,v=.str ⟨z.toArray⟩ t:=h.ju.imp fun _ h=>h.1
theorem RT.tI {g:G} {p:Option (VJ × VJ)} {xs:List T} {v:U8} (h:RT g p (.tup xs) v):RT g none (.tup xs) v/\∃a o its n,v=.ref a/\g.kn true a o/\(o.cls=.type "tuple"/\o.dict=none)/\o.data=.seq its n/\xs.length<=Vz/\M6 g xs its:=by cases h with|tup hk hc hd hz hl hi=>exact⟨.tup hk hc hd hz hl hi,_,_,_,_,rfl,hk,hc,hd,hz,hl,hi⟩
abbrev cG (g:G) (xs:List T) (us:List U8):Prop:=Paired (RT g none) xs us
theorem cG.le {g g':G} {xs us} (h:cG g xs us) (l:Le g g'):cG g' xs us:=by
 induction h with
 | nil=>exact .nil
 | cons a _ ih=>exact .cons (a.le l) ih
theorem dH {α β:Type} {F:α->β->Prop}:∀{xs:List α} {ys:List β},xs.length=ys.length->(∀(i:Nat) x v,xs[i]?=some x->ys[i]?=some v->F x v)->Paired F xs ys
 | [],[],_,_=>.nil
 | x::xs,y::ys,hl,h=>.cons (h 0 x y rfl rfl) (dH (by simpa using hl) fun i a b e1 e2=>h (i+1) a b (by simpa using e1) (by simpa using e2))
theorem xk {α β:Type} {F:α->β->Prop} {xs:List α} {ys:List β} (h:Paired F xs ys):∀(i:Nat) x v,xs[i]?=some x->ys[i]?=some v->F x v:=by
 induction h with
 | nil=>intro i x v e;simp at e
 | cons a _ ih =>
  intro i x v e1 e2;cases i with
  | zero=>simp at e1 e2;subst e1 e2;exact a
  | succ i=>exact ih i x v (by simpa using e1) (by simpa using e2)
theorem ub {α β:Type} {F:α->β->Prop} {xs:List α} {ys:List β} (h:Paired F xs ys) {i:Nat} {x} (e:xs[i]?=some x):∃v,ys[i]?=some v/\F x v:=by
 have hl:=Vr h;have hi:i<ys.length:=by rw [<- hl];exact(Vl.mp e).1
 exact⟨ys[i],by simp,xk h i x _ e (by simp)⟩
structure Rel (g:G) (L:aa):Prop where
 len:g.α.length=L.length
 cells:∀n c,at_ L n=some c->∃p,at_ g.α n=some p/\RT g (some p) c (.ref p.1)
 apart:∀n m p q,at_ g.α n=some p->at_ g.α m=some q->n≠m->p.1≠q.1/\p.1≠q.2/\p.2≠q.1/\p.2≠q.2
 live:∀n p,at_ g.α n=some p->(∃o,g.H p.1=some (false,o))/\∃o,g.H p.2=some (false,o)
noncomputable def BQ (H:Hp) (h:Heap):Prop:=∀a b o,H a=some (b,o)->h.get? a=some o
structure Un (ex:List VJ) (H H':Hp) (h h':Heap):Prop where
 keep:∀b o,h.get? b=some o->H b=none->b∉ex->h'.get? b=some o
 free:∀b o,h.get? b=some o->H b=none->b∉ex->H' b=none
 cf:∀b o,H b=some (true,o)->H' b=some (true,o)
theorem Un.trans {ex H H1 H2 h h1 h2} (a:Un ex H H1 h h1) (b:Un ex H1 H2 h1 h2):Un ex H H2 h h2 where
 keep:=fun c o q n x=>b.keep c o (a.keep c o q n x) (a.free c o q n x) x
 free:=fun c o q n x=>b.free c o (a.keep c o q n x) (a.free c o q n x) x
 cf:=fun c o q=>b.cf c o (a.cf c o q)
theorem Un.kept {ex H h h'} (k:∀b u,h.get? b=some u->h'.get? b=some u):Un ex H H h h':=⟨fun b o q _ _=>k b o q,fun _ _ _ n _=>n,fun _ _ q=>q⟩
theorem BQ.fresh {H h a} (x:BQ H h) (e:h.objs.size<=a):H a=none:=by
 cases q:H a with
 | none=>rfl
 | some u=>exact absurd (VF (Vu (x a u.1 u.2 q)) e) (WG _)
structure Mod (K:VD) (mg:Str->Option U8) (base:Heap):Prop where
 IL:K.In base
 glob:base.Ns VX mg
 blt:∃mb,base.Ns builtinsNs mb/\∀x:Str,x≠"__name__"->mb x=bootBuiltins x
 nolimit:base.NoLimit
structure Cx where
 prog:Wh
 w:Xg
 K:VD
 mg:Str->Option U8
 cls:Str->Option VJ
 base:Heap
 A:VZ
 N:List Str
 s₀:Vc
 H₀:Hp
 env:Env
 ex:List VJ
 fn:Str->Bool
noncomputable def MA (sc:Scope) (x:Str):Prop:=sc.names.lookup x=some .local\/sc.names.lookup x=some .cell\/sc.names.lookup x=some .free
noncomputable def Loc (sc:Scope) (x:Str):Prop:=sc.names.lookup x=some .local\/sc.names.lookup x=some .cell
noncomputable def Look (env:Env) (h:Heap) (m:Str->Option U8) (x:Str) (u:U8):Prop :=
 (env.kindOf x=some .local/\m x=some u)\/((env.kindOf x=some .cell\/env.kindOf x=some .free)/\∃c,env.cells.lookup x=some c/\h.IsCell c (some u))
structure Cx.Ok (X:Cx):Prop where
 mod:Mod X.K X.mg X.base
 kind:X.env.scope.kind=.function
 glob:X.env.globals=VX
 blt:X.env.builtins=builtinsNs
 above:X.s₀.heap.objs.size<=X.env.locals
 inj:∀x y c,X.env.cells.lookup x=some c->X.env.cells.lookup y=some c->x=y
 has:∀x,(X.env.kindOf x=some .cell\/X.env.kindOf x=some .free)->∃c,X.env.cells.lookup x=some c
 Rw:∀x c,X.fn x=true->X.env.cells.lookup x=some c->X.s₀.heap.objs.size<=c
 hd:X.A.handled=none
 UA:∀b∈X.ex,b≠X.env.locals/\∀x c,X.env.cells.lookup x=some c->c≠b
 bs:∀b o,X.base.get? b=some o->X.s₀.heap.get? b=some o/\X.H₀ b=none
 IM:X.base.objs.size<=X.s₀.heap.objs.size
 Ff:∀b o,X.base.get? b=some o->b∉X.ex
abbrev bf:=List (VJ × Obj)
structure Inv (X:Cx) (pins:bf) (φ:Fr) (g:G) (L:aa) (s:Vc):Prop where
 ok:X.Ok
 os:s.os=X.s₀.os
 bare:AllBare s.gens
 base:Un X.ex X.H₀ g.H X.s₀.heap s.heap
 loc:∃m,s.heap.Ns X.env.locals m/\∀(i:Nat) (x:Str) (t:T),X.N[i]?=some x->φ[i]?=some (some t)->MA X.env.scope x->∃u,RT g none t u/\Look X.env s.heap m x u
 cell:∀x c,X.env.cells.lookup x=some c->∃v,s.heap.IsCell c v
 free:g.H X.env.locals=none
 rI:∀x c,X.env.cells.lookup x=some c->g.H c=none
 pin:∀p∈pins,s.heap.get? p.1=some p.2/\g.H p.1=none/\p.1≠X.env.locals/\∀v,p.2.data≠.cell v
 hok:BQ g.H s.heap
 len:φ.length=X.N.length
 rel:Rel g L
 gB:g.B=X.base
 gm:g.cls=X.cls
 gw:g.w=X.w
section
variable {X:Cx} {pins:bf} {φ:Fr} {g g':G} {L L':aa} {s:Vc} {h':Heap}
theorem Inv.bs (I:Inv X pins φ g L s):∀b o,X.base.get? b=some o->s.heap.get? b=some o/\g.H b=none:=fun b o e =>
 ⟨I.base.keep b o (I.ok.bs b o e).1 (I.ok.bs b o e).2 (I.ok.Ff b o e),I.base.free b o (I.ok.bs b o e).1 (I.ok.bs b o e).2 (I.ok.Ff b o e)⟩
theorem Inv.bk (I:Inv X pins φ g L s):∀b o,X.base.get? b=some o->s.heap.get? b=some o:=fun b o e=>(I.bs b o e).1
theorem Inv.kn (I:Inv X pins φ g L s) {b a o} (h:g.kn b a o):s.heap.get? a=some o:=by
 rcases h with h|⟨_,h⟩
 ·exact I.hok _ _ _ h
 ·exact I.bk _ _ (by rw [<- I.gB];exact h)
theorem Inv.mod (I:Inv X pins φ g L s):Mod X.K X.mg X.base:=I.ok.mod
theorem Inv.Fg (I:Inv X pins φ g L s):X.K.In s.heap:=I.ok.mod.IL.keeps I.bk
theorem Inv.nolimit (I:Inv X pins φ g L s):s.heap.NoLimit:=I.ok.mod.nolimit.keeps I.bk
theorem Inv.lt (I:Inv X pins φ g L s):X.env.locals<s.heap.objs.size:=let ⟨_,hn,_⟩:=I.loc;hn.lt
theorem Inv.sz (I:Inv X pins φ g L s):X.s₀.heap.objs.size<=s.heap.objs.size:=Vt I.ok.above (Ys I.lt)
theorem Inv.fresh (I:Inv X pins φ g L s):g.H s.heap.objs.size=none:=I.hok.fresh (Vm _)
theorem Inv.IP (I:Inv X pins φ g L s):∀x c,X.env.cells.lookup x=some c->c≠X.env.locals:=fun x c e z=>by
 obtain⟨v,o,ho,hd⟩:=I.cell x c e;obtain⟨m,⟨o',es,ep,ho',hd',_⟩,_⟩:=I.loc;rw [z,ho'] at ho;cases ho;rw [hd'] at hd;cases hd
theorem Inv.step {g1:Array GenState} {t':Nat} {d':Drawn} {ch:List VJ} (I:Inv X pins φ g L s) (l:Le g g')
  (oC:∀b∈ch,(b∈X.ex\/X.s₀.heap.objs.size<=b)/\b≠X.env.locals/\(∀x c,X.env.cells.lookup x=some c->c≠b)/\∀p∈pins,p.1≠b)
  (keep:∀b o,b≠X.env.locals->b∉ch->s.heap.get? b=some o->g.H b=none->h'.get? b=some o) (free:∀b o,b∉ch->s.heap.get? b=some o->g.H b=none->g'.H b=none)
  (ns:∀m,s.heap.Ns X.env.locals m->h'.Ns X.env.locals m) (hok:BQ g'.H h') (hg:AllBare g1) (rel:Rel g' L'):Inv X pins φ g' L' { s with heap:=h',gens:=g1,drawn:=d',toks:=t' }:=by
 have Rx:∀b o,X.s₀.heap.get? b=some o->b≠X.env.locals:=fun b o e=>VB (VF (Vu e) I.ok.above)
 have PU:∀b o,X.s₀.heap.get? b=some o->b∉X.ex->b∉ch:=fun b o e hx hb=>by
  rcases(oC b hb).1 with z|z
  ·exact hx z
  ·exact absurd (VF (Vu e) z) (WG _)
 have cellK:∀x c,X.env.cells.lookup x=some c->∀v,s.heap.IsCell c v->h'.IsCell c v:=fun x c e v ⟨o,ho,hd⟩ =>
  ⟨o,keep c o (I.IP x c e) (fun z=>(oC c z).2.2.1 x c e rfl) ho (I.rI x c e),hd⟩
 refine⟨I.ok,I.os,hg,⟨fun b o e n hx=>?_,fun b o e n hx=>?_,fun b o e=>l.f b o (I.base.cf b o e)⟩,?_,fun x c e=>?_,?_,fun x c e=>?_,fun p hp=>?_,hok,I.len,rel,l.B.trans I.gB,l.m.trans I.gm,l.w.trans I.gw⟩
 ·exact keep b o (Rx b o e) (PU b o e hx) (I.base.keep b o e n hx) (I.base.free b o e n hx)
 ·exact free b o (PU b o e hx) (I.base.keep b o e n hx) (I.base.free b o e n hx)
 ·obtain⟨m,hn,hl⟩:=I.loc
  refine⟨m,ns m hn,fun i x v e1 e2 e3=>?_⟩;obtain⟨u,r,q⟩:=hl i x v e1 e2 e3;refine⟨u,r.le l,?_⟩;rcases q with q|⟨k,c,e,z⟩
  ·exact .inl q
  ·exact .inr ⟨k,c,e,cellK x c e _ z⟩
 ·obtain⟨v,z⟩:=I.cell x c e
  exact⟨v,cellK x c e v z⟩
 ·obtain⟨m,⟨o,_,_,ho,_⟩,_⟩:=I.loc
  exact free _ o (fun z=>(oC _ z).2.1 rfl) ho I.free
 ·obtain⟨v,o,ho,hd⟩:=I.cell x c e
  exact free c o (fun z=>(oC c z).2.2.1 x c e rfl) ho (I.rI x c e)
 ·obtain⟨e,n,ne,d⟩:=I.pin p hp
  have PV:p.1∉ch:=fun z=>(oC p.1 z).2.2.2 p hp rfl
  exact⟨keep p.1 p.2 ne PV e n,free p.1 p.2 PV e n,ne,d⟩
theorem Inv.un {t':Nat} (I:Inv X pins φ g L s) (l:Le g g') (u:Un [] g.H g'.H s.heap h') (hok:BQ g'.H h') (rel:Rel g' L'):Inv X pins φ g' L' { s with heap:=h',toks:=t' }:=by
 obtain⟨m,⟨o,es,ep,ho,r⟩,_⟩:=id I.loc;have hL:=u.keep _ o ho I.free (by simp)
 exact I.step (g1:=s.gens) (d':=s.drawn) (ch:=[]) l (fun _ z=>nomatch z) (fun b o _ _ e n=>u.keep b o e n (by simp)) (fun b o _ e n=>u.free b o e n (by simp)) (fun m' hm=>by
  obtain⟨o',gf,IQ,ho',r'⟩:=hm;rw [ho] at ho';cases ho';exact⟨_,gf,IQ,hL,r'⟩) hok I.bare rel
theorem Inv.call {s':Vc} {ch:List VJ} (I:Inv X pins φ g L s) (l:Le g g') (ho:s'.os=s.os) (u:Un ch g.H g'.H s.heap s'.heap) (hok:BQ g'.H s'.heap) (hg:AllBare s'.gens) (rel:Rel g' L')
  (oC:∀b∈ch,(b∈X.ex\/X.s₀.heap.objs.size<=b)/\b≠X.env.locals/\(∀x c,X.env.cells.lookup x=some c->c≠b)/\∀p∈pins,p.1≠b):Inv X pins φ g' L' s':=by
 obtain⟨hh,g1,d',t',o'⟩:=s';obtain rfl:o'=s.os:=ho;obtain⟨m,⟨o,es,ep,ho,r⟩,_⟩:=id I.loc;have hL:=u.keep _ o ho I.free fun z=>(oC _ z).2.1 rfl
 exact I.step (ch:=ch) l oC (fun b o _ hc e n=>u.keep b o e n hc) (fun b o hc e n=>u.free b o e n hc) (fun m' hm=>by
  obtain⟨o',gf,IQ,ho',r'⟩:=hm;rw [ho] at ho';cases ho';exact⟨_,gf,IQ,hL,r'⟩) hok hg rel
noncomputable def gx (X:Cx) (pins:bf) (H:Hp) (b:VJ):Prop:=H b=none/\b≠X.env.locals/\(b∈X.ex\/X.s₀.heap.objs.size<=b)/\(∀x c,X.env.cells.lookup x=some c->c≠b)/\∀p∈pins,p.1≠b
theorem Inv.uc {b:VJ} {H':Hp} (I:Inv X pins φ g L s) (hb:s.heap.objs.size<=b) (hn:H' b=none):gx X pins H' b:=by
 refine⟨hn,We (VF I.lt hb),.inr (Vt I.sz hb),fun x c e z=>?_,fun p hp z=>?_⟩
 ·obtain⟨v,q⟩:=I.cell x c e
  exact absurd (VF q.lt (by rw [z];exact hb)) (WG _)
 ·exact absurd (VF (Vu (I.pin p hp).1) (by rw [z];exact hb)) (WG _)
theorem Inv.turned {t':Nat} {ch:List VJ} (I:Inv X pins φ g L s) (k:∀b o,b∉ch->s.heap.get? b=some o->h'.get? b=some o) (hf:∀b∈ch,gx X pins g.H b):Inv X pins φ g L { s with heap:=h',toks:=t' }:=by
 refine I.step (g1:=s.gens) (d':=s.drawn) (ch:=ch) (Le.refl g) (fun b hb=>⟨(hf b hb).2.2.1,(hf b hb).2.1,(hf b hb).2.2.2⟩) (fun b o _ hc e _=>k b o hc e) (fun _ _ _ _ n=>n) (fun m hm=>?_) (fun b c u e=>?_) I.bare I.rel
 ·obtain⟨o,es,ep,ho,r⟩:=hm
  exact⟨o,es,ep,k _ o (fun z=>(hf _ z).2.1 rfl) ho,r⟩
 ·exact k b u (fun z=>by rw [(hf b z).1] at e;cases e) (I.hok b c u e)
theorem Inv.kept {t':Nat} (I:Inv X pins φ g L s) (k:∀b u,s.heap.get? b=some u->h'.get? b=some u):Inv X pins φ g L { s with heap:=h',toks:=t' }:=I.un (Le.refl g) (Un.kept k) (fun a b o e=>k a o (I.hok a b o e)) I.rel
theorem Inv.tok (I:Inv X pins φ g L s) (t:Nat):Inv X pins φ g L { s with toks:=t }:=I.kept (h':=s.heap) fun _ _ e=>e
theorem fO {α:Type}:∀{L:List α} {n:Nat} {c:α},at_ L n=some c->n<L.length
 | c::L,n,d,h=>by
  unfold at_ at h
  split at h
  ·rename_i e;simp [e]
  ·have:=fO h;simp;omega
theorem mC {α:Type} {L:List α} {n:Nat} {c d:α} (h:at_ L n=some c):at_ (d::L) n=some c:=by
 unfold at_
 rw [if_neg (VB (fO h))];exact h
theorem fk {α:Type} {L:List α} {d:α}:at_ (d::L) L.length=some d:=if_pos rfl
noncomputable def G.lay (g:G) (a:VJ) (o:Obj):G:={ g with H:=upd g.H a (true,o) }
theorem Rel.le {g g':G} (r:Rel g L) (l:Le g g') (e:g'.α=g.α) (k:∀a o,g.H a=some (false,o)->g'.H a=g.H a):Rel g' L:=by
 refine⟨by rw [e];exact r.len,fun n c h=>?_,by rw [e];exact r.apart,fun n p h=>?_⟩
 ·obtain⟨p,h1,h2⟩:=r.cells n c h
  refine⟨p,by rw [e];exact h1,h2.up l fun q z=>?_⟩;cases z;obtain⟨⟨o,e1⟩,o2,e2⟩:=r.live n p h1;exact⟨k _ _ e1,k _ _ e2⟩
 ·rw [e] at h
  obtain⟨⟨o,e1⟩,o2,e2⟩:=r.live n p h;exact⟨⟨o,(k _ _ e1).trans e1⟩,o2,(k _ _ e2).trans e2⟩
theorem Le.lay {a:VJ} {o:Obj} (h:g.H a=none):Le g (g.lay a o):=⟨fun b u e=>by
  have z:b≠a:=fun z=>by rw [z,h] at e;cases e
  exact(aA z).trans e,fun _ _ e=>e,rfl,rfl,rfl⟩
theorem Inv.laid {a:VJ} {o:Obj} {t':Nat} (I:Inv X pins φ g L s) (k:∀b u,s.heap.get? b=some u->h'.get? b=some u) (hp:s.heap.objs.size<=a) (new:h'.get? a=some o) :
  Inv X pins φ (g.lay a o) L { s with heap:=h',toks:=t' }:=by
 have hn:=I.hok.fresh hp;refine I.un (Le.lay hn) ⟨fun b u q _ _=>k b u q,fun b u q n _=>?_,(Le.lay hn).f⟩ (fun b c u e=>?_) (I.rel.le (Le.lay hn) rfl fun b u e=>?_)
 ·exact(aA (VB (VF (Vu q) hp))).trans n
 ·by_cases hb:b=a
  ·subst hb
   have e':some (true,o)=some (c,u):=(ar (H:=g.H)).symm.trans e;cases e';exact new
  ·exact k b u (I.hok b c u ((aA hb).symm.trans e))
 ·exact aA (fun z=>by rw [z,hn] at e;cases e)
noncomputable def G.new (g:G) (a:VJ) (o:Obj):G:={ g with H:=upd g.H a (false,o),α:=(a,a)::g.α }
theorem Le.new {a:VJ} {o:Obj} (h:g.H a=none):Le g (g.new a o):=⟨fun b u e=>by
  have z:b≠a:=fun z=>by rw [z,h] at e;cases e
  exact(aA z).trans e,fun _ _ e=>mC e,rfl,rfl,rfl⟩
theorem Rel.new {a:VJ} {o:Obj} {c:T} (r:Rel g L) (h:g.H a=none) (hc:RT (g.new a o) (some (a,a)) c (.ref a)):Rel (g.new a o) (c::L):=by
 have ne:∀n p,at_ g.α n=some p->p.1≠a/\p.2≠a:=fun n p e=>by
  obtain⟨⟨o1,e1⟩,o2,e2⟩:=r.live n p e;exact⟨fun z=>(by rw [z,h] at e1;cases e1),fun z=>(by rw [z,h] at e2;cases e2)⟩
 refine⟨by simp [G.new,r.len],fun n d e=>?_,fun n m p q e1 e2 Ry=>?_,fun n p e=>?_⟩
 ·unfold at_ at e
  split at e
  ·rename_i en
   cases e;exact⟨(a,a),by rw [en,<- r.len];exact fk,hc⟩
  ·obtain⟨p,h1,h2⟩:=r.cells n d e
   refine⟨p,mC h1,h2.up (Le.new h) fun q z=>?_⟩;cases z;exact⟨aA (ne n p h1).1,aA (ne n p h1).2⟩
 ·have e1':at_ ((a,a)::g.α) n=some p:=e1
  have e2':at_ ((a,a)::g.α) m=some q:=e2
  unfold at_ at e1' e2'
  split at e1'
  ·cases e1'
   split at e2'
   ·omega
   ·have z:=ne m q e2'
    exact⟨WA z.1,WA z.2,WA z.1,WA z.2⟩
  ·split at e2'
   ·cases e2'
    have z:=ne n p e1';exact⟨z.1,z.1,z.2,z.2⟩
   ·exact r.apart n m p q e1' e2' Ry
 ·have e':at_ ((a,a)::g.α) n=some p:=e
  unfold at_ at e'
  split at e'
  ·cases e';exact⟨⟨o,ar⟩,o,ar⟩
  ·obtain⟨⟨o1,h1⟩,o2,h2⟩:=r.live n p e'
   exact⟨⟨o1,(aA (ne n p e').1).trans h1⟩,o2,(aA (ne n p e').2).trans h2⟩
theorem Inv.new {a:VJ} {o:Obj} {c:T} {t':Nat} (I:Inv X pins φ g L s) (k:∀b u,s.heap.get? b=some u->h'.get? b=some u) (hp:s.heap.objs.size<=a) (new:h'.get? a=some o) (hc:RT (g.new a o) (some (a,a)) c (.ref a)) :
  Inv X pins φ (g.new a o) (c::L) { s with heap:=h',toks:=t' }:=by
 have hn:=I.hok.fresh hp;refine I.un (Le.new hn) ⟨fun b u q _ _=>k b u q,fun b u q n _=>?_,(Le.new hn).f⟩ (fun b c u e=>?_) (I.rel.new hn hc)
 ·exact(aA (VB (VF (Vu q) hp))).trans n
 ·by_cases hb:b=a
  ·subst hb
   have e':some (false,o)=some (c,u):=(ar (H:=g.H)).symm.trans e;cases e';exact new
  ·exact k b u (I.hok b c u ((aA hb).symm.trans e))
noncomputable def G.set (g:G) (a:VJ) (o:Obj):G:={ g with H:=upd g.H a (false,o) }
theorem Le.set {a:VJ} {o u:Obj} (h:g.H a=some (false,u)):Le g (g.set a o):=⟨fun b v e=>by
  have z:b≠a:=fun z=>by rw [z,h] at e;cases e
  exact(aA z).trans e,fun _ _ e=>e,rfl,rfl,rfl⟩
theorem pY {α:Type}:∀{L:List α} {n m:Nat} {c d:α},at_ (put L n d) m=some c->(m=n/\c=d)\/(m≠n/\at_ L m=some c)
 | x::L,n,m,c,d,h=>by
  have lp:∀(L:List α),(put L n d).length=L.length:=fun L=>by
   induction L with
   | nil=>rfl
   | cons y L ih=>unfold put;split <;> simp [ih]
  unfold put at h;split at h
  ·rename_i en
   unfold at_ at h ⊢
   split at h
   ·rename_i em;cases h;exact .inl ⟨by omega,rfl⟩
   ·rename_i em;rw [if_neg em];exact .inr ⟨by omega,h⟩
  ·rename_i en
   unfold at_ at h ⊢
   rw [lp] at h;split at h
   ·rename_i em;rw [if_pos em];exact .inr ⟨by omega,h⟩
   ·rename_i em;rw [if_neg em];exact pY h
theorem vM {α:Type} {L:List α} {n:Nat} {d:α}:(put L n d).length=L.length:=by
 induction L with
 | nil=>rfl
 | cons y L ih=>unfold put;split <;> simp [ih]
theorem Inv.set {n:Nat} {p:VJ × VJ} {a:VJ} {o u:Obj} {c:T} {t':Nat} (I:Inv X pins φ g L s) (hp:at_ g.α n=some p) (ha:a=p.1\/a=p.2) (hH:g.H a=some (false,u)) (k:∀b v,b≠a->s.heap.get? b=some v->h'.get? b=some v) (new:h'.get? a=some o)
  (hc:RT (g.set a o) (some p) c (.ref p.1)):Inv X pins φ (g.set a o) (put L n c) { s with heap:=h',toks:=t' }:=by
 have hb:∀b,g.H b=none->b≠a:=fun b n z=>by rw [z,hH] at n;cases n
 refine I.un (Le.set hH) ⟨fun b v q z _=>k b v (hb b z) q,fun b v q z _=>(aA (hb b z)).trans z,(Le.set hH).f⟩ (fun b c v e=>?_) ⟨by rw [vM];exact I.rel.len,fun m d e=>?_,I.rel.apart,fun m q e=>?_⟩
 ·by_cases hb:b=a
  ·subst hb
   have e':some (false,o)=some (c,v):=(ar (H:=g.H)).symm.trans e;cases e';exact new
  ·exact k b v hb (I.hok b c v ((aA hb).symm.trans e))
 ·rcases pY e with⟨rfl,rfl⟩|⟨hm,e⟩
  ·exact⟨p,hp,hc⟩
  ·obtain⟨q,h1,h2⟩:=I.rel.cells m d e
   refine⟨q,h1,h2.up (Le.set hH) fun q' z=>?_⟩;cases z;have ap:=I.rel.apart m n q p h1 hp hm
   rcases ha with rfl|rfl
   ·exact⟨aA ap.1,aA ap.2.2.1⟩
   ·exact⟨aA ap.2.1,aA ap.2.2.2⟩
 ·have sel:∀b v,g.H b=some (false,v)->∃v,upd g.H a (false,o) b=some (false,v):=fun b v e=>by
   by_cases hb:b=a
   ·exact⟨o,by rw [hb];exact ar⟩
   ·exact⟨v,(aA hb).trans e⟩
  obtain⟨⟨o1,h1⟩,o2,h2⟩:=I.rel.live m q e;exact⟨sel _ _ h1,sel _ _ h2⟩
theorem Inv.iT {pins':bf} (I:Inv X pins φ g L s) (h:∀p∈pins',s.heap.get? p.1=some p.2/\g.H p.1=none/\p.1≠X.env.locals/\∀v,p.2.data≠.cell v):Inv X pins' φ g L s:={ I with pin:=h }
end
end M
namespace M
open PySem PySem.Spec PyProof.Rows
abbrev F0:U8->Vc->Prop:=fun _ _=>False
theorem thn {α:Type} {t:Sem α} {Q Q':α->Vc->Prop} {Md:Model} {A:VZ} {E:U8->Vc->Prop} {s:Vc} (h:Vq Md A t Q F0 s) (hQ:∀a s,Q a s->Q' a s):Vq Md A t Q' E s:=wpAny_mono h hQ fun _ _ z=>z.elim
noncomputable def EP (X:Cx) (pins:bf) (φ:Fr) (g:G) (w:T) (L':aa) (u:U8) (s':Vc):Prop:=∃g',Le g g'/\Inv X pins φ g' L' s'/\RT g' none w u
noncomputable def AP (X:Cx) (pins:bf) (φ:Fr) (g:G) (w:List T) (L':aa) (u:List U8) (s':Vc):Prop:=∃g',Le g g'/\Inv X pins φ g' L' s'/\cG g' w u
noncomputable def TP (X:Cx) (pins:bf) (φ:Fr) (g:G) (w:Bool) (L':aa) (b:Bool) (s':Vc):Prop:=∃g',Le g g'/\Inv X pins φ g' L' s'/\b=w
noncomputable def SP (X:Cx) (pins:bf) (g:G) (o:O) (f:Flow) (s':Vc):Prop:=∃g',Le g g'/\match o,f with
 | .nx φ L,.next=>Inv X pins φ g' L s'
 | .bk φ L,.brk=>Inv X pins φ g' L s'
 | .ct φ L,.cont=>Inv X pins φ g' L s'
 | .rt t L,.ret u=>(∃φ,Inv X pins φ g' L s')/\RT g' none t u
 | _,_=>False
noncomputable def PE (X:Cx) (e:Expr) (m:SE):Prop:=∀{pins:bf} {φ:Fr} {g:G} {L:aa} {s:Vc} {w:T} {L':aa},Inv X pins φ g L s->m φ L=.ok w L'->Vq (model X.prog X.w) X.A (eval e X.env) (EP X pins φ g w L') F0 s
noncomputable def PT (X:Cx) (e:Expr) (m:ST):Prop:=∀{pins:bf} {φ:Fr} {g:G} {L:aa} {s:Vc} {w:Bool} {L':aa} (whole:Sem U8),(whole=eval e X.env\/∃op es p,e=.BoolOp op es p)->Inv X pins φ g L s->m φ L=.ok w L'->Vq (model X.prog X.w) X.A (isTrue e X.env whole) (TP X pins φ g w L') F0 s
noncomputable def PA (X:Cx) (es:List Expr) (m:SA):Prop:=∀{pins:bf} {φ:Fr} {g:G} {L:aa} {s:Vc} {w:List T} {L':aa} (pos:Pos),Inv X pins φ g L s->m φ L=.ok w L'->Vq (model X.prog X.w) X.A (spliced (backTo pos (starEach es X.env))) (AP X pins φ g w L') F0 s
noncomputable def PS (X:Cx) (st:Stmt) (m:SS):Prop:=∀{pins:bf} {φ:Fr} {g:G} {L:aa} {s:Vc},Inv X pins φ g L s->m φ L≠.bad->Vq (model X.prog X.w) X.A (exec st X.env) (SP X pins g (m φ L)) F0 s
noncomputable def yr (X:Cx) (st:List Stmt) (m:SS):Prop:=∀{pins:bf} {φ:Fr} {g:G} {L:aa} {s:Vc},Inv X pins φ g L s->m φ L≠.bad->Vq (model X.prog X.w) X.A (execs st X.env) (SP X pins g (m φ L)) F0 s
noncomputable def yt (X:Cx) (f:U8->U8->Sem U8) (m:T->T->aa->R T):Prop:=∀{pins:bf} {φ:Fr} {g:G} {L:aa} {s:Vc} {x y w:T} {L':aa} {u v:U8},Inv X pins φ g L s->RT g none x u->RT g none y v->m x y L=.ok w L'->Vq (model X.prog X.w) X.A (f u v) (EP X pins φ g w L') F0 s
noncomputable def dS (X:Cx) (f:U8) (m:Fn):Prop:=∀{pins:bf} {φ:Fr} {g:G} {L:aa} {s:Vc} {xs:List T} {w:T} {L':aa} {us:List U8},Inv X pins φ g L s->cG g xs us->m xs L=.ok w L'->Vq (model X.prog X.w) X.A (call f us) (EP X pins φ g w L') F0 s
section
variable {X:Cx} {pins:bf} {φ:Fr} {g g1:G} {L L':aa} {s s':Vc} {w:T} {u:U8} {e a b:Expr} {es:List Expr} {m ma mb:SE} {pos:Pos} {x:Str}
theorem EP.le (h:EP X pins φ g1 w L' u s') (l:Le g g1):EP X pins φ g w L' u s':=let ⟨g',k,r⟩:=h;⟨g',l.trans k,r⟩
theorem SP.le {o:O} {f:Flow} (h:SP X pins g1 o f s') (l:Le g g1):SP X pins g o f s':=let ⟨g',k,r⟩:=h;⟨g',l.trans k,r⟩
theorem Inv.ep (I:Inv X pins φ g L s) (r:RT g none w u):EP X pins φ g w L u s:=⟨g,.refl g,I,r⟩
theorem two {f:T->T->aa->R T} (ha:PE X a ma) (hb:PE X b mb) (I:Inv X pins φ g L s) (h:b2 ma mb f φ L=.ok w L') {α:Type} {Q:α->Vc->Prop} {F:U8->U8->Sem α}
  (hf:∀{g' x y L2 u v s2},Le g g'->Inv X pins φ g' L2 s2->RT g' none x u->RT g' none y v->f x y L2=.ok w L'->Vq (model X.prog X.w) X.A (F u v) Q F0 s2) :
  Vq (model X.prog X.w) X.A (eval a X.env) (fun u s₁=>Vq (model X.prog X.w) X.A (eval b X.env) (fun v s₂=>Vq (model X.prog X.w) X.A (F u v) Q F0 s₂) F0 s₁) F0 s:=by
 obtain⟨x,L1,e1,h⟩:=R.of h;obtain⟨y,L2,e2,h⟩:=R.of h;refine thn (ha I e1) fun u s1 ⟨g1,l1,I1,r1⟩=>thn (hb I1 e2) fun v s2 ⟨g2,l2,I2,r2⟩=>hf (l1.trans l2) I2 (r1.le l2) r2 h
theorem Fh {i:Nat} (hN:X.N[i]?=some x) (hv:MA X.env.scope x) (hd:(x == ("__debug__":Str))=false) (hcd:(x == ("__classdict__":Str))=false):PE X (.Name x pos) (v i):=by
 intro pins φ g L s w L' I h;unfold v at h;cases e:φ[i]? with
 | none=>rw [e] at h;cases h
 | some o =>
  cases o with
  | none=>rw [e] at h;cases h
  | some t =>
   rw [e] at h;cases h;obtain⟨m,hn,hl⟩:=I.loc;obtain⟨u,r,l⟩:=hl i x _ hN e hv;have fin:=I.ep r
   rcases l with⟨hk,hm⟩|⟨hk,c,hc,hcell⟩
   ·exact wpAny_Name (wpAny_loadName_local I.ok.kind hk hn hm fin) hd
   ·rcases hk with hk|hk
    ·exact wpAny_Name (wpAny_loadName_cell I.ok.kind hk hc hcell fin) hd
    ·exact wpAny_Name (wpAny_loadName_free I.ok.kind hk hc hcell fin hcd) hd
theorem cL:PE X e no:=fun _ h=>by cases h
theorem Fi {i:Int} {j:Nat}:PE X (.Constant (.int i) j pos) (c (.int i)):=fun I h=>by cases h;exact wpAny_Constant_int ((I.tok _).ep (.int i _))
theorem Jm {b:Bool} {j:Nat}:PE X (.Constant (.bool b) j pos) (c (.bl b)):=fun I h=>by cases h;exact Constant_bool (I.ep (.bl b))
theorem Fj {j:Nat}:PE X (.Constant .none j pos) (c .b7):=fun I h=>by cases h;exact Constant_none (I.ep .b7)
theorem Fl {x:Str} {j:Nat} (hz:x.cps.toList.length<=Vz):PE X (.Constant (.str x) j pos) (c (.str x.cps.toList)):=fun I h=>by cases h;exact Calls.Constant_str ((I.tok _).ep (.str _ _ hz))
abbrev Gl (X:Cx) (x:Str):Prop:=X.env.kindOf x=some .globalImplicit
theorem pZ {Q:U8->Vc->Prop} (I:Inv X pins φ g L s) (hg:Gl X x) (hm:X.mg x=some u) (h:Q u s) (hd:(x == ("__debug__":Str))=false):Vq (model X.prog X.w) X.A (eval (.Name x pos) X.env) Q F0 s :=
 Zg I.ok.kind hg (Calls.loadGlobal_global (by rw [I.ok.glob];exact I.mod.glob.keeps I.bk) hm h) hd
theorem gg {Q:U8->Vc->Prop} (I:Inv X pins φ g L s) (hg:Gl X x) (hm:X.mg x=none) (hv:bootBuiltins x=some u) (h:Q u s) (hn:x≠"__name__") (hd:(x == ("__debug__":Str))=false):Vq (model X.prog X.w) X.A (eval (.Name x pos) X.env) Q F0 s:=by
 obtain⟨mb,h1,h2⟩:=I.mod.blt;exact Zg I.ok.kind hg (Calls.loadGlobal_builtin (by rw [I.ok.glob];exact I.mod.glob.keeps I.bk) hm (by rw [I.ok.blt];exact h1.keeps I.bk) ((h2 x hn).trans hv) h) hd
noncomputable def PW (X:Cx) (t:T) (u:U8):Prop:=∀g:G,g.B=X.base->g.cls=X.cls->g.w=X.w->RT g none t u
theorem Fm {t:T} (hg:Gl X x) (hm:X.mg x=some u) (r:PW X t u) (hd:(x == ("__debug__":Str))=false):PE X (.Name x pos) (c t):=fun I h=>by cases h;exact pZ I hg hm (I.ep (r _ I.gB I.gm I.gw)) hd
theorem Fo {t:T} (hg:Gl X x) (hm:X.mg x=none) (hv:bootBuiltins x=some u) (r:PW X t u) (hn:x≠"__name__") (hd:(x == ("__debug__":Str))=false):PE X (.Name x pos) (c t):=fun I h=>by cases h;exact gg I hg hm hv (I.ep (r _ I.gB I.gm I.gw)) hn hd
theorem Fp {op:Operator} {f:T->T->aa->R T} (ho:yt X (binaryOp op) f) (ha:PE X a ma) (hb:PE X b mb):PE X (.BinOp a op b pos) (b2 ma mb f):=fun I h =>
 wpAny_BinOp (two ha hb I h fun l I r1 r2 h=>thn (ho I r1 r2 h) fun _ _ z=>z.le l)
theorem Fq {op:CmpOp} {f:T->T->aa->R T} (ho:yt X (compareOp op) f) (ha:PE X a ma) (hb:PE X b mb) (hm:behindInMarks op b=false):PE X (.Compare a [op] [b] pos) (b2 ma mb f):=fun I h =>
 wpAny_Compare1 (two ha hb I h fun l I r1 r2 h=>thn (ho I r1 r2 h) fun _ _ z=>z.le l) hm
theorem Jn {f:T->T->aa->R T} (ho:yt X (fun o i=>subscriptTail a b o i) f) (ha:PE X a ma) (hb:PE X b mb):PE X (.Subscript a b pos) (b2 ma mb f):=fun I h =>
 Subscript_ (two ha hb I h fun l I r1 r2 h=>thn (ho I r1 r2 h) fun _ _ z=>z.le l)
theorem Jo {op:UnaryOp} {f:T->aa->R T} (ho:∀{pins φ g L s x w L' u},Inv X pins φ g L s->RT g none x u->f x L=.ok w L'->Vq (model X.prog X.w) X.A (unaryOp op u) (EP X pins φ g w L') F0 s) (ha:PE X a ma):PE X (.UnaryOp op a pos) (b1 ma f):=fun I h=>by
 obtain⟨x,L1,e1,h⟩:=R.of h;exact UnaryOp_ (thn (ha I e1) fun v s1 ⟨g1,l1,I1,r1⟩=>thn (ho I1 r1 h) fun _ _ z=>z.le l1)
theorem Fs {x w:T} {L':aa} (h:neg x L=.ok w L'):∃i,x=.int i/\w=.int (-i)/\L'=L:=by
 cases x with
 | int i=>cases h;exact⟨i,rfl,rfl,rfl⟩
 | _=>cases h
theorem Ft {pins φ g L s x w L' u} (I:Inv X pins φ g L s) (r:RT g none x u) (h:neg x L=.ok w L'):Vq (model X.prog X.w) X.A (unaryOp .USub u) (EP X pins φ g w L') F0 s:=by
 obtain⟨i,rfl,rfl,rfl⟩:=Fs h;obtain⟨_,rfl⟩:=r.iI;exact neg_int ((I.tok _).ep (.int _ _))
theorem oR {a:SE} {φ L b L'} (h:tv a φ L=.ok b L'):a φ L=.ok (.bl b) L':=by
 obtain⟨x,L1,e1,h⟩:=R.of h;cases x <;> first|cases h|skip
 exact e1
theorem p5 {α β:Type} {f:α->β} {r:R α} {b:β} {L:aa} (h:r.map f=.ok b L):∃a,r=.ok a L/\f a=b:=by
 cases r with
 | bad=>cases h
 | ok a L1=>cases h;exact⟨a,rfl,rfl⟩
theorem Fu (ha:PE X a ma):PE X (.UnaryOp .Not a pos) (pW ma):=fun I h=>by
 obtain⟨b,e,rfl⟩:=p5 h;exact UnaryOp_ (thn (ha I (oR e)) fun v s1 ⟨g1,l1,I1,r1⟩=>by obtain rfl:=r1.bI;exact not_of (wpAny_truthy_bool ⟨g1,l1,I1,.bl _⟩))
theorem yu {op:BoolOp} (h:PE X a m):PE X (.BoolOp op [a] pos) m:=fun I hw=>BoolOp_one (h I hw)
theorem Fv (ha:PE X a ma) (hb:PE X (.BoolOp .And (b::es) pos) mb):PE X (.BoolOp .And (a::b::es) pos) (B1 ma mb):=fun I h=>by
 obtain⟨k,L1,e,h⟩:=R.of h;refine BoolOp_and (thn (ha I (oR e)) fun v s1 ⟨g1,l1,I1,r1⟩=>?_);obtain rfl:=r1.bI;refine wpAny_truthy_bool ?_;cases k with
 | true=>exact thn (hb I1 h) fun _ _ z=>z.le l1
 | false=>cases h;exact⟨g1,l1,I1,.bl _⟩
theorem Jp (ha:PE X a ma) (hb:PE X (.BoolOp .Or (b::es) pos) mb):PE X (.BoolOp .Or (a::b::es) pos) (My ma mb):=fun I h=>by
 obtain⟨k,L1,e,h⟩:=R.of h;refine BoolOp_or (thn (ha I (oR e)) fun v s1 ⟨g1,l1,I1,r1⟩=>?_);obtain rfl:=r1.bI;refine wpAny_truthy_bool ?_;cases k with
 | false=>exact thn (hb I1 h) fun _ _ z=>z.le l1
 | true=>cases h;exact⟨g1,l1,I1,.bl _⟩
theorem vN:PT X e no:=fun _ _ _ h=>by cases h
theorem Fw (h:PE X e m) (he:∀whole,isTrue e X.env whole=(do let v <- whole;standAt e.pos;holding [v] (truthy v))) (hb:∀op es p,e≠.BoolOp op es p):PT X e (tv m):=fun {_ _ _ _ _ _ _} whole hw I q=>by
 rcases hw with rfl|⟨_,_,_,z⟩
 ·exact isTrue_plain (thn (h I (oR q)) fun v s1 ⟨g1,l1,I1,r1⟩=>by obtain rfl:=r1.bI;exact wpAny_truthy_bool ⟨g1,l1,I1,rfl⟩) (he _)
 ·exact absurd z (hb _ _ _)
theorem Fx {m:ST} (ha:PT X a m):PT X (.UnaryOp .Not a pos) (fF m):=fun {_ _ _ _ _ _ _} whole _ I h=>by
 obtain⟨b,e,rfl⟩:=p5 h;exact isTrue_not (thn (ha _ (.inl rfl) I e) fun _ _ ⟨g1,l1,I1,e1⟩=>⟨g1,l1,I1,by rw [e1]⟩)
theorem B4 {m:ST} (ha:PT X a m):PT X (.BoolOp .And [a] pos) m:=fun {_ _ _ _ _ _ _} whole _ I h=>by
 refine isTrue_and (thn (ha _ (.inl rfl) I h) fun c s1 e=>?_);cases c with
 | true=>exact isTrue_and_nil e
 | false=>exact e
theorem Fy {m:ST} (ha:PT X a m):PT X (.BoolOp .Or [a] pos) m:=fun {_ _ _ _ _ _ _} whole _ I h=>by
 refine isTrue_or (thn (ha _ (.inl rfl) I h) fun c s1 e=>?_);cases c with
 | true=>exact e
 | false=>exact isTrue_or_nil e
theorem Fz {ma mb:ST} (ha:PT X a ma) (hb:PT X (.BoolOp .And (b::es) pos) mb):PT X (.BoolOp .And (a::b::es) pos) (B0 ma mb):=fun {_ _ _ _ _ _ _} whole _ I h=>by
 obtain⟨k,L1,e,h⟩:=R.of h;refine isTrue_and (thn (ha _ (.inl rfl) I e) fun c s1 ⟨g1,l1,I1,e1⟩=>?_);subst e1;cases c with
 | true=>exact thn (hb whole (.inr ⟨_,_,_,rfl⟩) I1 h) fun _ _ ⟨g2,l2,r⟩=>⟨g2,l1.trans l2,r⟩
 | false=>cases h;exact⟨g1,l1,I1,rfl⟩
theorem Jq {ma mb:ST} (ha:PT X a ma) (hb:PT X (.BoolOp .Or (b::es) pos) mb):PT X (.BoolOp .Or (a::b::es) pos) (Mx ma mb):=fun {_ _ _ _ _ _ _} whole _ I h=>by
 obtain⟨k,L1,e,h⟩:=R.of h;refine isTrue_or (thn (ha _ (.inl rfl) I e) fun c s1 ⟨g1,l1,I1,e1⟩=>?_);subst e1;cases c with
 | false=>exact thn (hb whole (.inr ⟨_,_,_,rfl⟩) I1 h) fun _ _ ⟨g2,l2,r⟩=>⟨g2,l1.trans l2,r⟩
 | true=>cases h;exact⟨g1,l1,I1,rfl⟩
theorem FC {op:CmpOp} {f:T->T->aa->R T} (ho:yt X (compareOp op) f) (ha:PE X a ma) (hb:PE X b mb) (hm:behindInMarks op b=false):PT X (.Compare a [op] [b] pos) (tv (b2 ma mb f)):=fun {_ _ _ _ _ _ _} whole _ I h =>
 wpAny_isTrue_Compare1 (two ha hb I (oR h) fun l I r1 r2 h=>thn (ho I r1 r2 h) fun _ _ ⟨g1,l1,I1,r1⟩=>by obtain rfl:=r1.bI;exact wpAny_truthy_bool ⟨g1,l.trans l1,I1,rfl⟩) hm
theorem vO {op oQ:CmpOp} {a b d:SE} {φ L w L'} (h:xg op oQ a b d φ L=.ok w L'):∃x L1 y L2 k L3,a φ L=.ok x L1/\b φ L1=.ok y L2/\cmp op x y L2=.ok (.bl k) L3/\((k=false/\w=.bl false/\L'=L3)\/(k=true/\∃z L4,d φ L3=.ok z L4/\cmp oQ y z L4=.ok w L')):=by
 obtain⟨x,L1,e1,h⟩:=R.of h;obtain⟨y,L2,e2,h⟩:=R.of h;obtain⟨k,L3,e3,h⟩:=R.of h;refine⟨x,L1,y,L2,k,L3,e1,e2,by unfold cmp;rw [e3];rfl,?_⟩;cases k with
 | false=>cases h;exact .inl ⟨rfl,rfl,rfl⟩
 | true=>obtain⟨z,L4,e4,h⟩:=R.of h;exact .inr ⟨rfl,z,L4,e4,h⟩
theorem yw {op oQ:CmpOp} {d:Expr} {md:SE} (ho:∀op,yt X (compareOp op) (cmp op)) (ha:PE X a ma) (hb:PE X b mb) (hd:PE X d md) (hm:lastMarks [op,oQ] [b,d]=false):PE X (.Compare a [op,oQ] [b,d] pos) (xg op oQ ma mb md):=fun I h=>by
 obtain⟨x,L1,y,L2,k,L3,e1,e2,e3,h⟩:=vO h;refine Compare_chain (thn (ha I e1) fun v s1 ⟨g1,l1,I1,r1⟩=>chain_link (thn (hb I1 e2) fun u s2 ⟨g2,l2,I2,r2⟩=>thn (ho op I2 (r1.le l2) r2 e3) fun d s3 ⟨g3,l3,I3,r3⟩=>?_)) hm;cases r3;refine wpAny_truthy_bool ?_;have BR:=(l1.trans l2).trans l3
 rcases h with⟨rfl,rfl,rfl⟩|⟨rfl,z,L4,e4,h⟩
 ·exact ite_ff ⟨g3,BR,I3,.bl _⟩
 ·exact ite_tt (chain_last (thn (hd I3 e4) fun w' s4 ⟨g4,l4,I4,r4⟩=>thn (ho oQ I4 (r2.le (l3.trans l4)) r4 h) fun _ _ z=>z.le (BR.trans l4)))
theorem yx {op oQ:CmpOp} {d:Expr} {md:SE} (ho:∀op,yt X (compareOp op) (cmp op)) (ha:PE X a ma) (hb:PE X b mb) (hd:PE X d md) (hm:lastMarks [op,oQ] [b,d]=false):PT X (.Compare a [op,oQ] [b,d] pos) (tv (xg op oQ ma mb md)):=fun {_ _ _ _ _ _ _} whole _ I h=>by
 obtain⟨x,L1,y,L2,k,L3,e1,e2,e3,h⟩:=vO (oR h);refine isTrue_chain (thn (ha I e1) fun v s1 ⟨g1,l1,I1,r1⟩=>test_link (thn (hb I1 e2) fun u s2 ⟨g2,l2,I2,r2⟩=>thn (ho op I2 (r1.le l2) r2 e3) fun d s3 ⟨g3,l3,I3,r3⟩=>?_)) hm;cases r3;refine wpAny_truthy_bool ?_;have BR:=(l1.trans l2).trans l3
 rcases h with⟨rfl,e,rfl⟩|⟨rfl,z,L4,e4,h⟩
 ·cases e;exact ite_ff ⟨g3,BR,I3,rfl⟩
 ·exact ite_tt (test_last (thn (hd I3 e4) fun w' s4 ⟨g4,l4,I4,r4⟩=>thn (ho oQ I4 (r2.le (l3.trans l4)) r4 h) fun _ _ ⟨g5,l5,I5,r5⟩=>by cases r5;exact wpAny_truthy_bool ⟨g5,(BR.trans l4).trans l5,I5,rfl⟩))
theorem FD {k:Expr} {mk:ST} (hk:PT X k mk) (ha:PE X a ma) (hb:PE X b mb):PE X (.IfExp k a b pos) (M3 mk ma mb):=fun I h=>by
 obtain⟨k,L1,e,h⟩:=R.of h;refine wpAny_IfExp (thn (hk _ (.inl rfl) I e) fun d s1 ⟨g1,l1,I1,e1⟩=>?_);subst e1;cases d with
 | true=>exact thn (ha I1 h) fun _ _ z=>z.le l1
 | false=>exact thn (hb I1 h) fun _ _ z=>z.le l1
noncomputable def bh:Expr->Bool
 | .Starred ..=>false
 | _=>true
theorem az {env:Env} (h:bh e=true):starEach (e::es) env=(false,eval e env)::starEach es env:=by
 cases e <;> first|rfl|cases h
theorem p6:PA X [] (iS []):=fun {_ _ _ _ _ _ _} _ I h=>by cases h;exact X5 ⟨_,.refl _,I,.nil⟩
theorem jL {ms:List SE} (ha:PE X e m) (hr:PA X es (iS ms)) (hs:bh e=true):PA X (e::es) (iS (m::ms)):=fun {_ _ _ _ _ _ _} pos I h=>by
 obtain⟨t,L1,e1,h⟩:=R.of h;obtain⟨ts,L2,e2,h⟩:=R.of h;cases h;rw [az hs];show Vq _ _ (spliced ((false,eval e X.env)::backTo pos (starEach es X.env))) _ _ _
 exact Yx (thn (ha I e1) fun u s1 ⟨g1,l1,I1,r1⟩=>thn (hr pos I1 e2) fun us s2 ⟨g2,l2,I2,r2⟩=>⟨g2,l1.trans l2,I2,.cons (r1.le l2) r2⟩)
theorem cG.lst {us:List U8} {xs:List T} {p:Option (VJ × VJ)} {a:VJ} {n:Nat} {o:Obj} (r:cG g xs us) (l:Le g g1) (ht:ua p a a) (hk:g1.kn p.isNone a { cls:=.type "list",data:=.seq us.toArray n }) (hz:xs.length<=Vz):RT g1 p (.lst xs) (.ref a) :=
 .lst ht hk hz (by simpa using Vr r) fun i x v e1 e2=>(xk r i x v e1 (by simpa using e2)).le l
theorem lh {fz:Bool} {xs:List T} {us:List U8} {L2:aa} {t' n:Nat} {h':Heap} (I:Inv X pins φ g L s) (r:cG g xs us) (h:eC fz xs L=.ok w L2) (k:∀b u,s.heap.get? b=some u->h'.get? b=some u) (new:h'.get? s.heap.objs.size=some { cls:=.type "list",data:=.seq us.toArray n }) :
  EP X pins φ g w L2 (.ref s.heap.objs.size) { s with heap:=h',toks:=t' }:=by
 unfold eC b8 at h;split at h
 ·rename_i hz
  unfold mk at h;split at h
  ·cases h
   exact⟨_,Le.lay I.fresh,I.laid k (Vm _) new,r.lst (n:=n) (o:=default) (Le.lay I.fresh) (.inl rfl) (.inl ar) hz⟩
  ·cases h
   refine⟨_,Le.new I.fresh,I.new k (Vm _) new (r.lst (n:=n) (o:=default) (Le.new I.fresh) (.inr rfl) (.inl ar) hz),?_⟩;have:=I.rel.len
   exact .ref (p:=(s.heap.objs.size,s.heap.objs.size)) (by show at_ ((_,_)::g.α) _=_;rw [<- this];exact fk)
 ·cases h
theorem p7 {fz:Bool} {xs:List T} {L2:aa} (h:eC fz xs L=.ok w L2):xs.length<=Vz:=by
 unfold eC b8 at h;split at h
 ·assumption
 ·cases h
theorem FE {ms:List SE} {fz:Bool} (h:PA X es (iS ms)):PE X (.List es pos) (lst fz ms):=fun I q=>by
 obtain⟨ts,L1,e1,q⟩:=R.of q;refine wpAny_List_spliced (thn (h pos I e1) fun us s1 ⟨g1,l1,I1,r⟩=>⟨by rw [<- Vr r];exact p7 q,?_⟩);exact(lh (t':=s1.toks) I1 r q (fun b u e=>U1 _ e) (U9 _ rfl)).le l1
theorem cG.tup {us:List U8} {xs:List T} {a:VJ} {n:Nat} {o:Obj} (r:cG g xs us) (l:Le g g1) (hk:g1.kn true a o) (hc:o.cls=.type "tuple"/\o.dict=none) (hd:o.data=.seq us.toArray n) (hz:xs.length<=Vz):RT g1 none (.tup xs) (.ref a) :=
 .tup hk hc hd hz (by simpa using Vr r) fun i x v e1 e2=>(xk r i x v e1 (by simpa using e2)).le l
theorem FF {ms:List SE} {k:Nat} (h:PA X es (iS ms)) (hz:es.length<=Vz) (hl:es.length=ms.length):PE X (.Tuple es k pos) (tup ms):=fun I q=>by
 obtain⟨ts,L1,e1,q⟩:=R.of q;cases q;have len:∀{ms:List SE} {φ L ts L1},iS ms φ L=.ok ts L1->ts.length=ms.length:=fun {ms}=>by
  induction ms with
  | nil=>intro φ L ts L1 h;cases h;rfl
  | cons m ms ih =>
   intro φ L ts L1 h;obtain⟨t,L1,e1,h⟩:=R.of h;obtain⟨ts,L2,e2,h⟩:=R.of h;cases h;simp [ih e2]
 have hz':ts.length<=Vz:=by rw [len e1,<- hl];exact hz
 refine wpAny_Tuple_spliced (thn (h pos I e1) fun us s1 ⟨g1,l1,I1,r⟩=>⟨by rw [<- Vr r];exact hz',?_⟩);exact⟨_,l1.trans (Le.lay I1.fresh),I1.laid (t':=s1.toks) (fun b u e=>U1 _ e) (Vm _) (U9 _ rfl),r.tup (Le.lay I1.fresh) (.inl ar) ⟨rfl,rfl⟩ rfl hz'⟩
end
section
variable {X:Cx} {pins:bf} {φ:Fr} {g g1:G} {L L':aa} {s s':Vc} {w:T} {u:U8} {e a b:Expr} {es:List Expr} {m ma mb:SE} {pos:Pos} {x:Str} {st:Stmt} {rest:List Stmt} {ms m1 m2:SS}
theorem yy:PS X st gu:=fun _ h=>absurd rfl h
theorem B5:yr X [] (ab []):=fun I _=>wpAny_execs_nil ⟨_,.refl _,I⟩
theorem yz {r:List SS} (h1:PS X st ms) (h2:yr X rest (ab r)):yr X (st::rest) (ab (ms::r)):=fun {pins φ g L s} I h=>by
 have e:ab (ms::r) φ L=(ms φ L).next (ab r):=rfl
 rw [e] at h ⊢;refine wpAny_execs_cons (thn (h1 I fun z=>h (by rw [z];rfl)) fun f s1 q=>?_);cases o:ms φ L with
 | bad=>rw [o] at h;exact absurd rfl h
 | nx φ1 L1 =>
  rw [o] at q h;obtain⟨g',l,q⟩:=q;cases f <;> first|exact q.elim|skip
  exact thn (h2 q h) fun _ _ z=>z.le l
 | _ =>
  rw [o] at q;obtain⟨g',l,q⟩:=q;cases f <;> first|exact q.elim|exact⟨g',l,q⟩
theorem B6:PS X (.Pass pos) pass:=fun I _=>wpAny_Pass ⟨_,.refl _,I⟩
theorem FH:PS X (.Break pos) brk:=fun I _=>wpAny_Break ⟨_,.refl _,I⟩
theorem FI:PS X (.Continue pos) cnt:=fun I _=>wpAny_Continue ⟨_,.refl _,I⟩
theorem Inv.quiet (I:Inv X pins φ g L s):interactive X.env=false:=by simp [interactive,I.ok.kind]
theorem iw {α:Type} {r:R α} {f:α->aa->O} (h:O.of r f≠.bad):∃a L,r=.ok a L/\O.of r f=f a L/\f a L≠.bad:=by
 cases r with
 | bad=>exact absurd rfl h
 | ok a L=>exact⟨a,L,rfl,rfl,h⟩
noncomputable def jg:Expr->Bool
 | .ListComp ..=>false
 | .SetComp ..=>false
 | .DictComp ..=>false
 | _=>true
theorem jM {t:Option Expr} {l:Nat} {env:Env} (h:jg e=true):swapsWith e t l env=pure false:=by
 cases e <;> first|rfl|cases h
theorem FJ (he:PE X e m) (hs:jg e=true):PS X (.Expr e pos) (gd m):=fun I h=>by
 obtain⟨t,L1,e1,e2,h⟩:=iw h;rw [show gd m _ _=_ from e2];exact wpAny_Expr_any (thn (he I e1) fun v s1 ⟨g1,l1,I1,r1⟩=>⟨g1,l1,I1⟩) I.quiet (jM hs)
theorem FL (he:PE X e m):PS X (.Return (some e) pos) (ret m):=fun I h=>by
 obtain⟨t,L1,e1,e2,h⟩:=iw h;rw [show ret m _ _=_ from e2];exact wpAny_Return_some (thn (he I e1) fun v s1 ⟨g1,l1,I1,r1⟩=>⟨g1,l1,⟨_,I1⟩,r1⟩)
theorem B7:PS X (.Return none pos) (ret (c .b7)):=fun I _=>wpAny_Return_none ⟨_,.refl _,⟨_,I⟩,.b7⟩
theorem Jr {k:Expr} {mk:ST} {sa sb:List Stmt} (hk:PT X k mk) (ha:yr X sa m1) (hb:yr X sb m2):PS X (.If k sa sb pos) (iff mk m1 m2):=fun I h=>by
 obtain⟨k,L1,e1,e2,h⟩:=iw h;rw [show iff mk m1 m2 _ _=_ from e2];refine wpAny_If (thn (hk _ (.inl rfl) I e1) fun d s1 ⟨g1,l1,I1,e⟩=>?_);subst e;cases d with
 | true=>exact thn (ha I1 h) fun _ _ z=>z.le l1
 | false=>exact thn (hb I1 h) fun _ _ z=>z.le l1
theorem rJ {N:List Str} (hN:N.Nodup) {i j:Nat} {x:Str} (a:N[i]?=some x) (b:N[j]?=some x):i=j:=by
 obtain⟨h1,e1⟩:=Vl.mp a;obtain⟨h2,e2⟩:=Vl.mp b;exact(List.getElem_inj hN).mp (e1.trans e2.symm)
structure ud (X:Cx) (i:Nat) (x:Str):Prop where
 nd:X.N.Nodup
 ix:X.N[i]?=some x
 loc:Loc X.env.scope x
 fn:X.fn x=true\/X.env.scope.names.lookup x=some .local
theorem mX {Md:Model} {A:VZ} {E:U8->Vc->Prop} {i:Nat} {t:T} {Q:Unit->Vc->Prop} (I:Inv X pins φ g L s) (S:ud X i x) (r:RT g none t u)
  (h:∀s',Inv X pins (φ.set i (some t)) g L s'->(∃a,WL a s.heap s'.heap/\(a=X.env.locals\/X.env.cells.lookup x=some a))->Q () s'):Vq Md A (storeName X.env x u) Q E s:=by
 obtain⟨m,hn,hl⟩:=id I.loc;have M7:(X.env.scope.kind == .class || (X.env.scope.kind == .module && X.env.locals != X.env.globals))=false:=by rw [I.ok.kind];rfl
 have PX:i<φ.length:=by rw [I.len];exact(Vl.mp S.ix).1
 have IP:=I.IP;have tracked:∀{a:VJ} {h':Heap},g.H a=none->WL a s.heap h'->BQ g.H h':=fun {a h'} hf hs b c o e=>(hs.2 b fun z=>by rw [z,hf] at e;cases e).trans (I.hok b c o e)
 have Js:∀{a:VJ} {h':Heap},X.s₀.heap.objs.size<=a->WL a s.heap h'->Un X.ex X.H₀ g.H X.s₀.heap h':=fun {a h'} ha hs =>
  ⟨fun b o e n hx=>(hs.2 b (VB (VF (Vu e) ha))).trans (I.base.keep b o e n hx),I.base.free,I.base.cf⟩
 rcases S.loc with hk|hk
 ·refine wpAny_storeName_local hk hn (fun h' hn' hs=>?_) M7
  refine h _ { I with base:=Js I.ok.above hs,loc:=⟨_,hn',fun j y v' e1 e2 e3=>?_⟩,cell:=fun y c e=>?_,pin:=fun p hp=>?_,hok:=tracked I.free hs,len:=by simpa using I.len } ⟨_,hs,.inl rfl⟩
  ·by_cases hj:j=i
   ·subst hj
    rw [S.ix] at e1;cases e1;rw [aai PX] at e2;cases e2;exact⟨u,r,.inl ⟨hk,by simp⟩⟩
   ·rw [Y1 (WA hj)] at e2
    obtain⟨u',r',q⟩:=hl j y v' e1 e2 e3;refine⟨u',r',?_⟩;rcases q with⟨k,e⟩|⟨k,c,e,z⟩
    ·refine .inl ⟨k,?_⟩
     have:y≠x:=fun e=>hj (rJ S.nd e1 (e ▸ S.ix))
     simp [this,e]
    ·exact .inr ⟨k,c,e,z.sameBut hs (IP y c e)⟩
  ·obtain⟨w',z⟩:=I.cell y c e
   exact⟨w',z.sameBut hs (IP y c e)⟩
  ·obtain⟨e,n,ne,d⟩:=I.pin p hp
   exact⟨(hs.2 p.1 ne).trans e,n,ne,d⟩
 ·have M8:X.fn x=true:=by
   rcases S.fn with z|z
   ·exact z
   ·rw [z] at hk;cases hk
  obtain⟨c,hc⟩:=I.ok.has x (.inl hk);obtain⟨w',z⟩:=I.cell x c hc;refine wpAny_storeName_cell I.ok.kind hk hc z (fun h' hc' hs=>?_);obtain⟨oc,Rz,M9⟩:=id z;refine h { s with heap:=h' } { I with base:=Js (I.ok.Rw x c M8 hc) hs,loc:=⟨m,hn.sameBut hs (WA (IP x c hc)),fun j y v' e1 e2 e3=>?_⟩,cell:=fun y c' e=>?_,pin:=fun p hp=>?_,hok:=tracked (I.rI x c hc) hs,len:=by simpa using I.len } ⟨c,hs,.inr hc⟩
  ·by_cases hj:j=i
   ·subst hj
    rw [S.ix] at e1;cases e1;rw [aai PX] at e2;cases e2;exact⟨u,r,.inr ⟨.inl hk,c,hc,hc'⟩⟩
   ·rw [Y1 (WA hj)] at e2
    obtain⟨u',r',q⟩:=hl j y v' e1 e2 e3;refine⟨u',r',?_⟩;rcases q with q|⟨k,c',e,z'⟩
    ·exact .inl q
    ·refine .inr ⟨k,c',e,z'.sameBut hs ?_⟩
     rintro rfl;exact hj (rJ S.nd e1 (I.ok.inj _ _ _ e hc ▸ S.ix))
  ·by_cases IS:c'=c
   ·subst IS;exact⟨_,hc'⟩
   ·obtain⟨w2,z2⟩:=I.cell y c' e
    exact⟨w2,z2.sameBut hs IS⟩
  ·obtain⟨e,n,ne,d⟩:=I.pin p hp
   refine⟨(hs.2 p.1 ?_).trans e,n,ne,d⟩;intro q;rw [q,Rz] at e;have q':oc=p.2:=WN e
   exact d w' (by rw [<- q'];exact M9)
noncomputable def PG (X:Cx) (tg:Expr) (m:Tg):Prop:=∀{pins:bf} {φ φ':Fr} {g:G} {L:aa} {s:Vc} {t:T} {u:U8},Inv X pins φ g L s->RT g none t u->m.set t φ=some φ'->Vq (model X.prog X.w) X.A (assign tg X.env u) (fun _ s'=>Inv X pins φ' g L s') F0 s
theorem mD {i:Nat} (S:ud X i x):PG X (.Name x pos) (.one i):=fun I r h=>by cases h;exact wpAny_assign_Name (mX I S r fun s' I' _=>I')
noncomputable def Jt (X:Cx) (ts:List Expr) (is:List Nat):Prop:=∀{pins:bf} {φ:Fr} {g:G} {L:aa} {s:Vc} {xs:List T} {us:List U8},Inv X pins φ g L s->cG g xs us->xs.length=is.length ->
 Vq (model X.prog X.w) X.A (assignInOrder ((assignEach ts X.env).map (·.2)) us) (fun _ s'=>Inv X pins (sets is xs φ) g L s') F0 s
theorem B8:Jt X [] []:=fun I r _=>by cases r with|nil=>exact assignInOrder_nil I|cons _ _=>contradiction
theorem yA {i:Nat} {is:List Nat} {ts:List Expr} (S:ud X i x) (h:Jt X ts is):Jt X (.Name x pos::ts) (i::is):=fun I r hl=>by
 cases r with
 | nil=>cases hl
 | cons r1 r2 =>
  show Vq _ _ (assignInOrder (assign (.Name x pos) X.env::(assignEach ts X.env).map (·.2)) _) _ _ _;exact assignInOrder_cons (thn (mD S I r1 rfl) fun _ s1 I1=>h I1 r2 (by simpa using hl))
theorem Inv.tup {xs:List T} (I:Inv X pins φ g L s) (r:RT g none (.tup xs) u):∃a its,u=.ref a/\IsTup s.heap a its/\cG g xs its.toList/\xs.length<=Vz:=by
 cases r with
 | tup hk hc hd hz hl hi=>exact⟨_,_,rfl,⟨_,I.kn hk,hc.1,_,hd⟩,dH (by simpa using hl) fun i x v e1 e2=>hi i x v e1 (by simpa using e2),hz⟩
theorem yB {is:List Nat} {ts:List Expr} {k:Nat} (h:Jt X ts is) (hn:(assignEach ts X.env).length=is.length) (jN:(assignEach ts X.env).findIdx? (·.1)=none):PG X (.Tuple ts k pos) (.many is):=fun {_ _ _ _ _ _ t _} I r hw=>by
 cases t <;> try cases hw
 rename_i xs;have hw':(if xs.length=is.length then some (sets is xs _) else none)=some _:=hw
 clear hw;rename_i φ φ' _ _ _ _;split at hw'
 ·rename_i hl
  cases hw';obtain⟨a,its,rfl,ht,rv,hz⟩:=I.tup r;refine assign_Tuple_tuple I.ok.hd ht (by rw [hn,<- hl,Vr rv];simp) jN fun h' hx=>?_
  exact h (I.kept (t':=_) fun b o e=>hx b o (VB (Vu e)) e) rv hl
 ·cases hw'
theorem ue {tg:Expr} {t:Tg} (he:PE X e m) (hg:PG X tg t) (hs:swapsWithSole [tg] e pos.line X.env=pure false) (hw:swappedStores [tg] e X.env=pure none) (h1:(assignEach [tg] X.env).map (·.2)=[assign tg X.env]):PS X (.Assign [tg] e pos) (asg t m):=fun {pins φ g L s} I h=>by
 obtain⟨v,L1,e1,e2,h⟩:=iw h;cases ef:t.set v φ with
 | none=>simp only [ef] at h;exact absurd rfl h
 | some φ1 =>
  have e3:asg t m φ L=.nx φ1 L1:=by
   rw [show asg t m φ L=_ from e2];simp only [ef]
  rw [e3];refine wpAny_Assign_stores (thn (he I e1) fun v s1 ⟨g1,l1,I1,r1⟩=>?_) hs hw;rw [h1];exact thn (hg I1 r1 ef) fun _ s2 q=>⟨g1,l1,q⟩
theorem FN {op:Operator} {i:Nat} (S:ud X i x) (he:PE X e m) (ho:yt X (inplaceOp op) (ag op)):PS X (.AugAssign (.Name x pos) op e pos') (aug op i m):=fun {pins φ g L s} I h=>by
 obtain⟨t,L1,e1,e2,h⟩:=iw h;rw [show aug op i m _ _=_ from e2];obtain⟨x0,L2,q1,e3⟩:=R.of e1;obtain⟨y,L3,q2,e4⟩:=R.of e3;unfold v at q1;cases ev:φ[i]? with
 | none=>rw [ev] at q1;cases q1
 | some o =>
  cases o with
  | none=>rw [ev] at q1;cases q1
  | some t0 =>
   rw [ev] at q1;cases q1;obtain⟨mm,hn,hl⟩:=I.loc;have RA:MA X.env.scope x:=by rcases S.loc with k|k;exact .inl k;exact .inr (.inl k)
   obtain⟨u,r,l⟩:=hl i x _ S.ix ev RA;refine wpAny_AugAssign_Name ?_;have go:Vq (model X.prog X.w) X.A (eval e X.env) (fun w s₂=>Vq (model X.prog X.w) X.A (inplaceOp op u w) (fun r s₃=>Vq (model X.prog X.w) X.A (storeName X.env x r) (fun _=>SP X pins g (.nx (φ.set i (some t)) L1) .next) F0 s₃) F0 s₂) F0 s:=by
    refine thn (he I q2) fun w s1 ⟨g1,l1,I1,r1⟩=>thn (ho I1 (r.le l1) r1 e4) fun z s2 ⟨g2,l2,I2,r2⟩=>?_
    exact mX I2 S r2 fun s3 I3 _=>⟨g2,l1.trans l2,I3⟩
   rcases l with⟨hk,hm⟩|⟨hk,c,hc,hcell⟩
   ·exact wpAny_loadName_local I.ok.kind hk hn hm go
   ·rcases hk with hk|hk
    ·exact wpAny_loadName_cell I.ok.kind hk hc hcell go
    ·have hk:X.env.scope.names.lookup x=some .free:=hk
     rcases S.loc with k|k <;> (rw [k] at hk;cases hk)
theorem FO {k:Expr} {mk:ST} {sb:List Stmt} {mb:SS} (hk:PT X k mk) (hb:yr X sb mb) (n:Nat):PS X (.While k sb [] pos) (rA mk mb n):=fun {pins φ g L s} I h=>by
 refine wpAny_While (codeAny_whileLoop (fun n' s'=>∃φ' g' L',Le g g'/\Inv X pins φ' g' L' s'/\rA mk mb n' φ' L'≠.bad/\rA mk mb n' φ' L'=rA mk mb n φ L) ?_ n ⟨φ,g,L,.refl g,I,h,rfl⟩);rintro n' s1 ⟨φ1,g1,L1,l1,I1,h1,eq⟩;rw [<- eq];cases n' with
 | zero=>exact absurd rfl h1
 | succ n' =>
  obtain⟨b,L2,e1,e2,h2⟩:=iw h1;have e2':rA mk mb (n'+1) φ1 L1=_:=e2
  rw [e2'] at eq ⊢;refine wpAny_passesOwn Xv (thn (hk _ (.inl rfl) I1 e1) fun b' s2 ⟨g2,l2,I2,e⟩=>?_);subst e;cases b' with
  | false=>exact wpAny_execs_nil ⟨g2,l1.trans l2,I2⟩
  | true =>
   rw [if_pos rfl] at h2 eq ⊢;rw [if_pos rfl];have hb':mb φ1 L2≠.bad:=fun z=>by rw [z] at h2;exact absurd rfl h2
   refine wpAny_passesOwn Xv (thn (hb I2 hb') fun f s3 ⟨g3,l3,q3⟩=>?_);have BR:=(l1.trans l2).trans l3
   cases eb:mb φ1 L2 with
   | bad=>exact absurd eb hb'
   | nx φ3 L3 =>
    rw [eb] at q3 h2 eq;cases f <;> first|exact q3.elim|exact⟨n',WH _,φ3,g3,L3,BR,q3,h2,rfl⟩
   | ct φ3 L3 =>
    rw [eb] at q3 h2 eq;cases f <;> first|exact q3.elim|exact⟨n',WH _,φ3,g3,L3,BR,q3,h2,rfl⟩
   | bk φ3 L3 =>
    rw [eb] at q3;cases f <;> first|exact q3.elim|exact⟨g3,BR,q3⟩
   | rt t3 L3 =>
    rw [eb] at q3;cases f <;> first|exact q3.elim|exact⟨g3,BR,q3⟩
end
section
variable {X:Cx} {pins:bf} {φ:Fr} {g g1:G} {L L':aa} {s s':Vc} {w t:T} {u:U8} {e a b:Expr} {es:List Expr} {m ma mb:SE} {pos:Pos} {x:Str} {h':Heap} {xs:List T}
theorem p8 {α:Type}:∀{L:List α} {n:Nat},n<L.length->∃c,at_ L n=some c
 | c::L,n,h=>by
  unfold at_
  split
  ·exact⟨c,rfl⟩
  ·exact p8 (by simp at h;omega)
theorem Inv.view (I:Inv X pins φ g L s) (r:RT g none t u):∃p,RT g p (vw L t) u:=by
 cases r with
 | ref h =>
  rename_i n p;obtain⟨c,hc⟩:=p8 (L:=L) (by rw [<- I.rel.len];exact fO h);obtain⟨q,h1,h2⟩:=I.rel.cells n c hc;rw [h] at h1;cases h1;exact⟨_,by show RT g _ ((at_ L n).getD .b7) _;rw [hc];exact h2⟩
 | _=>exact⟨none,by first|exact .b7|exact .bl _|exact .int _ _|exact .str _ _ (by assumption)|exact .ty _|exact .own (by assumption)|exact .tup (by assumption) (by assumption) (by assumption) (by assumption) (by assumption) (by assumption)|exact .lst (by assumption) (by assumption) (by assumption) (by assumption) (by assumption)|exact .aU (by assumption) (by assumption) (by assumption) (by assumption) (by assumption) (by assumption) (by assumption) (by assumption) (by assumption) (by assumption) (by assumption)|exact .obj (by assumption) (by assumption) (by assumption) (by assumption) (by assumption) (by assumption) (by assumption) (by assumption) (by assumption) (by assumption) (by assumption) (by assumption)⟩
theorem Inv.lst {p:Option (VJ × VJ)} (I:Inv X pins φ g L s) (r:RT g p (.lst xs) u):∃a its n,u=.ref a/\s.heap.get? a=some { cls:=.type "list",data:=.seq its n }/\cG g xs its.toList/\xs.length<=Vz:=by
 cases r with
 | lst ht hk hz hl hi=>exact⟨_,_,_,rfl,I.kn hk,dH (by simpa using hl) fun i x v e1 e2=>hi i x v e1 (by simpa using e2),hz⟩
theorem Inv.tupP {p:Option (VJ × VJ)} (I:Inv X pins φ g L s) (r:RT g p (.tup xs) u):∃a its,u=.ref a/\IsTup s.heap a its/\cG g xs its.toList/\xs.length<=Vz:=by
 obtain⟨_,_,_,_,_,rfl,hk,hc,hd,hz,hl,hi⟩:=r.tI;exact⟨_,_,rfl,⟨_,I.kn hk,hc.1,_,hd⟩,dH (by simpa using hl) fun i x v e1 e2=>hi i x v e1 (by simpa using e2),hz⟩
theorem ah {h:Heap} {a:VJ} {its:Array U8} {n:Nat} (e:h.get? a=some { cls:=.type "list",data:=.seq its n }):h.IsList a its:=⟨_,e,rfl,n,rfl⟩
end
structure Turn (P:Wh) (w:Xg) (tg:Expr) (g0:G) (xs:List T) (k:aa->Prop) (fp:List VJ) (it:VJ) (tn:Nat->Heap->Prop):Prop where
 mem:it∈fp
 obj:∀i h,tn i h->∀b∈fp,∃o,h.get? b=some o/\∀v,o.data≠.cell v
 keep:∀i h h',tn i h->(∀b∈fp,∀o,h.get? b=some o->h'.get? b=some o)->tn i h'
 item:∀{X:Cx},X.prog=P->X.w=w->∀{i:Nat} {pins:bf} {φ:Fr} {g:G} {L:aa} {s:Vc} {E:U8->Vc->Prop} {x:T},Le g0 g->Inv X pins φ g L s->(∀b∈fp,gx X pins g.H b)->tn i s.heap->k L->xs[i]?=some x ->
  Vq (model P w) X.A (pyNext (.ref it)) (fun r s1=>∃u,r=some u/\Vq (model P w) X.A (letOwnedTupleGo tg (.ref it) u) (fun _ s2=>∃g',Le g g'/\Inv X pins φ g' L s2/\RT g' none x u/\tn (i+1) s2.heap/\∀b∈fp,g'.H b=none) E s1) E s
 done:∀{X:Cx},X.prog=P->X.w=w->∀{i:Nat} {pins:bf} {φ:Fr} {g:G} {L:aa} {s:Vc} {E:U8->Vc->Prop},Le g0 g->Inv X pins φ g L s->(∀b∈fp,gx X pins g.H b)->tn i s.heap->k L->i=xs.length ->
  Vq (model P w) X.A (pyNext (.ref it)) (fun r s1=>r=none/\Inv X pins φ g L s1) E s
 self:∀(A:VZ) (i:Nat) (s:Vc) (Q:U8->Vc->Prop) (E:U8->Vc->Prop),tn i s.heap->Q (.ref it) s->Vq (model P w) A (pyIter (.ref it)) Q E s
noncomputable def IT (X:Cx) (pins:bf) (φ:Fr) (g:G) (tg:Expr) (xs:List T) (k:aa->Prop) (L':aa) (Na:U8) (s2:Vc):Prop :=
 ∃(it:VJ) (fp:List VJ) (tn:Nat->Heap->Prop) (g':G),Na=.ref it/\Le g g'/\Inv X pins φ g' L' s2/\Turn X.prog X.w tg g' xs k fp it tn/\tn 0 s2.heap/\∀b∈fp,gx X pins g'.H b
noncomputable def PI (X:Cx) (tg iter:Expr) (m:SI):Prop:=∀{pins:bf} {φ:Fr} {g:G} {L:aa} {s:Vc} {xs:List T} {k:aa->Prop} {L':aa},Inv X pins φ g L s->m φ L=.ok (xs,k) L' ->
 Vq (model X.prog X.w) X.A (eval iter X.env) (fun v s1=>Vq (model X.prog X.w) X.A (pyIter v) (IT X pins φ g tg xs k L') F0 s1) F0 s
theorem vP {Md:Model} {A:VZ} {E:U8->Vc->Prop} {s:Vc} {tg:Expr} {it:VJ} {u:U8} {o:Obj} {n:String} {vs:Array U8} {Q:Unit->Vc->Prop} (ho:s.heap.get? it=some o) (hc:o.cls=.type n) (hd:o.data=.fields vs)
    (hn:["enumerate","zip","dict_itemiterator","dict_reverseitemiterator","odict_iterator","itertools.zip_longest","itertools.pairwise"].contains n=false) (hQ:Q () s):Vq Md A (letOwnedTupleGo tg (.ref it) u) Q E s:=by
  unfold letOwnedTupleGo;cases tg <;> first
    | exact U2 hQ
    | (cases u <;> first
        | exact U2 hQ
        | (refine U0 (wpAny_load ho ?_)
           rw [hc,hd];show Vq Md A (if (["enumerate","zip","dict_itemiterator","dict_reverseitemiterator","odict_iterator","itertools.zip_longest","itertools.pairwise"].contains n && vs[0]? == some (rawInt _))=true then _ else _) Q E s
           rw [if_neg (by intro h;rw [hn,XK] at h;cases h)];exact U2 hQ))
section
variable {P:Wh} {wd:Xg} {tg:Expr} {g0:G} {xs:List T} {t:T} {L0:aa} {a it:VJ}
theorem mE {o:Obj} {h:Heap} {vs:Array U8} (e:h.get? it=some o) (d:o.data=.fields vs):∀b∈[it],∃o,h.get? b=some o/\∀v,o.data≠.cell v:=fun b hb=>by
 have z:b=it:=by simpa using hb
 subst z;exact⟨o,e,fun v z=>by rw [d] at z;cases z⟩
theorem gz {L:aa} (h:stays t L0 L):vw L t=vw L0 t:=by
 cases t with
 | ref n=>show(at_ L n).getD _=(at_ L0 n).getD _;rw [h n rfl]
 | _=>rfl
theorem xl (r0:RT g0 none t (.ref a)) (hv:vw L0 t=.lst xs):Turn P wd tg g0 xs (stays t L0) [it] it (fun i h=>h.IsListIter it a i) where
 mem:=by simp
 obj:=fun i h st=>by obtain⟨o,e,c,d⟩:=st;exact mE e d
 keep:=fun i h h' st k=>st.at fun o e=>k it (by simp) o e
 item:=by
  intro X hP hw i pins φ g L s E x l I hf st hk hx;subst hP hw;obtain⟨p,r⟩:=I.view (r0.le l);rw [gz hk,hv] at r;obtain⟨a',its,n,e1,e2,rv,_⟩:=I.lst r;cases e1;obtain⟨u,hu,ru⟩:=ub rv hx;refine wpAny_pyNext_list_item st (ah e2) (x:=u) (by simpa using hu) fun h' eD sb=>?_
  have I1:Inv X pins φ g L { s with heap:=h' }:=I.turned (t':=s.toks) (ch:=[it]) (fun b o hb e=>(sb.2 b (by simpa using hb)).trans e) hf;obtain⟨o,e,c,d⟩:=id eD;exact⟨u,rfl,vP (s:={ s with heap:=h' }) e c d (by decide) ⟨g,.refl g,I1,ru,eD,fun b hb=>(hf b hb).1⟩⟩
 done:=by
  intro X hP hw i pins φ g L s E l I hf st hk hx;subst hP hw;obtain⟨p,r⟩:=I.view (r0.le l);rw [gz hk,hv] at r;obtain⟨a',its,n,e1,e2,rv,_⟩:=I.lst r;cases e1;have hl:=Vr rv
  exact wpAny_pyNext_list_end I.ok.hd st (ah e2) (by have z:=hl;simp at z ⊢;omega) fun h' eb=>⟨rfl,I.turned (t':=s.toks) (ch:=[it]) (fun b o hb e=>eb b o (by simpa using hb) e) hf⟩
 self:=fun _ _ _ _ _ st h=>wpAny_pyIter_listiter st h
theorem yC (r0:RT g0 none t (.ref a)) (hv:vw L0 t=.tup xs):Turn P wd tg g0 xs (stays t L0) [it] it (fun i h=>h.IsTupleIter it a i) where
 mem:=by simp
 obj:=fun i h st=>by obtain⟨o,e,c,d⟩:=st;exact mE e d
 keep:=fun i h h' st k=>st.at fun o e=>k it (by simp) o e
 item:=by
  intro X hP hw i pins φ g L s E x l I hf st hk hx;subst hP hw;obtain⟨p,r⟩:=I.view (r0.le l);rw [gz hk,hv] at r;obtain⟨a',its,e1,e2,rv,_⟩:=I.tupP r;cases e1;obtain⟨u,hu,ru⟩:=ub rv hx;refine wpAny_pyNext_tuple_item st (show s.heap.IsTuple a its from e2) (x:=u) (by simpa using hu) fun h' eD sb=>?_
  have I1:Inv X pins φ g L { s with heap:=h' }:=I.turned (t':=s.toks) (ch:=[it]) (fun b o hb e=>(sb.2 b (by simpa using hb)).trans e) hf;obtain⟨o,e,c,d⟩:=id eD;exact⟨u,rfl,vP (s:={ s with heap:=h' }) e c d (by decide) ⟨g,.refl g,I1,ru,eD,fun b hb=>(hf b hb).1⟩⟩
 done:=by
  intro X hP hw i pins φ g L s E l I hf st hk hx;subst hP hw;obtain⟨p,r⟩:=I.view (r0.le l);rw [gz hk,hv] at r;obtain⟨a',its,e1,e2,rv,_⟩:=I.tupP r;cases e1;have hl:=Vr rv
  exact wpAny_pyNext_tuple_end I.ok.hd st (show s.heap.IsTuple a its from e2) (by have z:=hl;simp at z ⊢;omega) fun h' eb=>⟨rfl,I.turned (t':=s.toks) (ch:=[it]) (fun b o hb e=>eb b o (by simpa using hb) e) hf⟩
 self:=fun _ _ _ _ _ st h=>wpAny_pyIter_tupleiter st h
theorem uf {lo:Int} {n:Nat}:Turn P wd tg g0 (upTo lo n) (fun _=>True) [it] it (fun i h=>IsRangeIter h it (lo+(i:Nat) * 1) ((n:Int) - (i:Nat)) 1) where
 mem:=by simp
 obj:=fun i h st=>mE st rfl
 keep:=fun i h h' st k=>k it (by simp) _ st
 item:=by
  intro X hP hw i pins φ g L s E x l I hf st hk hx;subst hP hw;have W:=Walks.range (prog:=X.prog) (w:=X.w) I.ok.hd it lo 1 n
  have hx':i<n/\x=.int (lo+i):=by
   simp only [upTo,Vs,List.getElem?_range'] at hx;by_cases hi:i<n
   ·simp [hi] at hx;exact⟨hi,hx.symm⟩
   ·simp [hi] at hx
  obtain⟨hi,rfl⟩:=hx';refine W.item i s _ _ hi st fun v h' tk hv eD kk=>?_
  obtain⟨t,rfl⟩:=hv;have I1:Inv X pins φ g L { s with heap:=h',toks:=tk }:=I.turned (ch:=[it]) (fun b o hb e=>kk b o (by simpa using hb) e) hf
  refine⟨_,rfl,vP (s:={ s with heap:=h',toks:=tk }) (n:="range_iterator") eD rfl rfl (by decide) ⟨g,.refl g,I1,?_,eD,fun b hb=>(hf b hb).1⟩⟩;rw [Int.mul_one];exact .int _ _
 done:=by
  intro X hP hw i pins φ g L s E l I hf st hk hx;subst hP hw;exact wpAny_pyNext_range_end I.ok.hd st (by simp [upTo] at hx;omega) fun h' eb=>⟨rfl,I.turned (t':=s.toks) (ch:=[it]) (fun b o hb e=>eb b o (by simpa using hb) e) hf⟩
 self:=fun _ _ _ _ _ st h=>wpAny_pyIter_rangeiter st h
theorem rK {z:Cs} {tk:Tok} (ty:String) (IU:ty="str_ascii_iterator"\/ty="str_iterator"):Turn P wd tg g0 (z.map fun ch=>.str [ch]) (stays (.str z) L0) [it] it (fun i h=>h.IsStrIter it ty ⟨z.toArray⟩ tk i) where
 mem:=by simp
 obj:=fun i h st=>by obtain⟨o,e,c,d⟩:=st;exact mE e d
 keep:=fun i h h' st k=>by obtain⟨o,e,r⟩:=st;exact⟨o,k it (by simp) o e,r⟩
 item:=by
  intro X hP hw i pins φ g L s E x l I hf st hk hx;subst hP hw;have wk:Walks X.prog X.w X.A it [it] [it] z.toArray.size (SignAt ⟨z.toArray⟩) (fun i h=>h.IsStrIter it ty ⟨z.toArray⟩ tk i):=by
   rcases IU with e|e
   ·subst e;exact Walks.strAscii I.ok.hd it _ tk
   ·subst e;exact Walks.strWide I.ok.hd it _ tk
  have hn:["enumerate","zip","dict_itemiterator","dict_reverseitemiterator","odict_iterator","itertools.zip_longest","itertools.pairwise"].contains ty=false:=by
   rcases IU with e|e <;> subst e <;> decide
  rw [Vs] at hx;obtain⟨c0,PY,rfl⟩:=Vj.mp hx;refine wk.item i s _ E (by simpa using (Vl.mp PY).1) st fun v h' tk' hv eD kk=>?_
  obtain⟨c,u,hc',rfl⟩:=hv;have ec:c0=c:=by
   have:z[i]?=some c:=by simpa using hc'
   rw [PY] at this;exact WN this
  subst ec;have I1:Inv X pins φ g L { s with heap:=h',toks:=tk' }:=I.turned (ch:=[it]) (fun b o hb e=>kk b o (by simpa using hb) e) hf
  obtain⟨o,e,ec,d⟩:=id eD;exact⟨_,rfl,vP (s:={ s with heap:=h',toks:=tk' }) e ec d hn ⟨g,.refl g,I1,.str [c0] u (by show 1<=Vz;decide),eD,fun b hb=>(hf b hb).1⟩⟩
 done:=by
  intro X hP hw i pins φ g L s E l I hf st hk hx;subst hP hw;have wk:Walks X.prog X.w X.A it [it] [it] z.toArray.size (SignAt ⟨z.toArray⟩) (fun i h=>h.IsStrIter it ty ⟨z.toArray⟩ tk i):=by
   rcases IU with e|e
   ·subst e;exact Walks.strAscii I.ok.hd it _ tk
   ·subst e;exact Walks.strWide I.ok.hd it _ tk
  have hi:i=z.toArray.size:=by simpa using hx
  subst hi;exact wk.done s _ E st fun h' tk kk=>⟨rfl,I.turned (ch:=[it]) (fun b o hb e=>kk b o (by simpa using hb) e) hf⟩
 self:=fun A i s Q E st h=>by
  rcases IU with e|e
  ·subst e;exact wpAny_pyIter_striter_ascii st h
  ·subst e;exact wpAny_pyIter_striter_wide st h
theorem rL (h:Heap) (a:VJ) (o:Obj) (ha:a≠h.objs.size):(h.push o).get? a=h.get? a:=by
 cases h;simp only [Heap.push,Heap.get?,Yq];rw [if_neg ha]
theorem yD:∀(xs:List T) (n i:Nat),(num n xs)[i]?=(xs[i]?).map fun x=>.tup [.int ((n+i:Nat):Int),x]
 | [],n,i=>by simp [num]
 | x::xs,n,0=>by simp [num]
 | x::xs,n,i+1=>by show(num (n+1) xs)[i]?=_;rw [yD xs (n+1) i,show n+1+i=n+(i+1) by omega];simp
theorem vQ:∀(xs:List T) (n:Nat),(num n xs).length=xs.length
 | [],n=>rfl
 | x::xs,n=>by simp [num,vQ xs]
theorem Inv.pair {X:Cx} {pins:bf} {φ:Fr} {g:G} {L:aa} {s:Vc} {h2:Heap} {t':Nat} {ch:List VJ} {x y:T} {u v:U8} (I:Inv X pins φ g L s) (r1:RT g none x u) (r2:RT g none y v) (hf:∀b∈ch,gx X pins g.H b) (bQ:∀b∈ch,b<s.heap.objs.size)
  (ht:h2.get? s.heap.objs.size=some { cls:=.type "tuple",data:=.seq #[u,v] }) (k:∀b o,b∉ch->s.heap.get? b=some o->h2.get? b=some o) :
  ∃g',Le g g'/\Inv X pins φ g' L { s with heap:=h2,toks:=t' }/\RT g' none (.tup [x,y]) (.ref s.heap.objs.size)/\∀b∈ch,g'.H b=none:=by
 have I1:=I.laid (a:=s.heap.objs.size) (o:={ cls:=.type "tuple",data:=.seq #[u,v] }) (h':=s.heap.push { cls:=.type "tuple",data:=.seq #[u,v] }) (t':=t') (fun b u q=>U1 _ q) (Vm _) (U9 _ rfl);have l:=Le.lay (o:={ cls:=.type "tuple",data:=.seq #[u,v] }) I.fresh
 have fr:∀b∈ch,(g.lay s.heap.objs.size { cls:=.type "tuple",data:=.seq #[u,v] }).H b=none:=fun b hb=>(aA (VB (bQ b hb))).trans (hf b hb).1
 refine⟨_,l,Inv.turned (s:={ s with heap:=s.heap.push { cls:=.type "tuple",data:=.seq #[u,v] },toks:=t' }) (t':=t') (ch:=ch) I1 (fun b o hb q=>?_) (fun b hb=>⟨fr b hb,(hf b hb).2⟩),cG.tup (us:=[u,v]) (.cons r1 (.cons r2 .nil)) l (.inl ar) ⟨rfl,rfl⟩ rfl (by show 2<=Vz;decide),fr⟩;by_cases Ef:b=s.heap.objs.size
 ·subst Ef
  have q2:(s.heap.push { cls:=.type "tuple",data:=.seq #[u,v] }).get? s.heap.objs.size=some o:=q;rw [U9 _ rfl] at q2;rw [ht,<- q2]
 ·exact k b o hb ((rL _ _ _ Ef).symm.trans q)
theorem xm {elts:List Expr} {x1:Nat} {pos:Pos} {e:VJ} (hne:e≠it) (r0:RT g0 none t (.ref a)) (hv:vw L0 t=.lst xs):Turn P wd (.Tuple elts x1 pos) g0 (num 0 xs) (stays t L0) [e,it] e (fun i h=>(∃old,IsEnum h e it ((i:Nat):Int) old)/\h.IsListIter it a i) where
 mem:=by simp
 obj:=fun i h st b hb=>by
  obtain⟨⟨old,vR⟩,bz⟩:=st;rcases(by simpa using hb:b=e\/b=it) with z|z
  ·subst z
   exact⟨_,vR,fun v z=>nomatch z⟩
  ·subst z
   obtain⟨o,e,c,d⟩:=bz;exact⟨o,e,fun v z=>by rw [d] at z;cases z⟩
 keep:=fun i h h' st k=>by
  obtain⟨⟨old,vR⟩,bz⟩:=st;exact⟨⟨old,k e (by simp) _ vR⟩,bz.at fun o q=>k it (by simp) o q⟩
 item:=by
  intro X hP hw i pins φ g L s E x l I hf st hk hx;subst hP hw;obtain⟨⟨old,vR⟩,bz⟩:=st;obtain⟨p,r⟩:=I.view (r0.le l);rw [gz hk,hv] at r;obtain⟨a',its,n,e1,e2,rv,_⟩:=I.lst r;cases e1;rw [yD,Vj] at hx;obtain⟨y,hy,rfl⟩:=hx;obtain⟨u,hu,ru⟩:=ub rv hy;refine wpAny_pyNext_enum_item vR bz (ah e2) (x:=u) (by simpa using hu) hne fun h1 RB yE RC PZ ug=>?_
  refine⟨_,rfl,wpAny_letOwnedTupleGo_enum RB fun h2 RD tU=>?_⟩
  replace tU:WL e h1 h2:=tU
  have RE:e<s.heap.objs.size:=Vu vR;have UB:it<s.heap.objs.size:=by obtain⟨o,q,_⟩:=id bz;exact Vu q
  have RF:h2.get? s.heap.objs.size=some { cls:=.type "tuple",data:=.seq #[.int i s.toks,u] }:=(tU.2 _ (We RE)).trans RC;obtain⟨g',l',I',r',f'⟩:=I.pair (t':=s.toks+1) (ch:=[e,it]) (.int (i:Int) s.toks) ru hf (fun b hb=>by rcases(by simpa using hb:b=e\/b=it) with z|z <;> rw [z] <;> assumption) RF fun b o hb q=>by
   have hb1:b≠e:=fun z=>hb (by simp [z])
   have yF:b≠it:=fun z=>hb (by simp [z])
   exact(tU.2 b hb1).trans (ug b o hb1 yF q)
  refine⟨g',l',I',by simpa using r',⟨⟨u,?_⟩,yE.at fun o q=>(tU.2 it (WA hne)).trans q⟩,f'⟩;show IsEnum h2 e it (((i+1:Nat)):Int) u
  rw [show(((i+1:Nat)):Int)=(i:Int)+1 by push_cast;rfl];exact RD
 done:=by
  intro X hP hw i pins φ g L s E l I hf st hk hx;subst hP hw;obtain⟨⟨old,vR⟩,bz⟩:=st;obtain⟨p,r⟩:=I.view (r0.le l);rw [gz hk,hv] at r;obtain⟨a',its,n,e1,e2,rv,_⟩:=I.lst r;cases e1;have hl:=Vr rv
  rw [vQ] at hx;exact wpAny_pyNext_enum_end I.ok.hd vR bz (ah e2) (by have z:=hl;simp at z ⊢;omega) fun h' eb=>⟨rfl,I.turned (t':=s.toks) (ch:=[e,it]) (fun b o hb e=>eb b o (fun z=>hb (by simp [z])) e) hf⟩
 self:=fun _ _ _ _ _ st h=>by obtain⟨⟨old,vR⟩,_⟩:=st;exact wpAny_pyIter_enum vR h
end
section
variable {X:Cx} {tg e a b:Expr} {m ma mb:SE} {pos p RG:Pos}
theorem aC {α:Type} {c:Prop} [Decidable c] {r:R α} {a:α} {L:aa} (h:b8 c r=.ok a L):c/\r=.ok a L:=by
 unfold b8 at h;split at h
 ·exact⟨by assumption,h⟩
 ·cases h
theorem Ju {φ:Fr} {L L':aa} {t:T} (h:m φ L=.ok t L'):iS [m] φ L=.ok [t] L':=by simp [iS,R.bind,h]
theorem Nb {φ:Fr} {L L1 L':aa} {t u:T} (h:ma φ L=.ok t L1) (h2:mb φ L1=.ok u L'):iS [ma,mb] φ L=.ok [t,u] L':=by simp [iS,R.bind,h,h2]
theorem FP {φ:Fr} {L L':aa} {xs:List T} {k:aa->Prop} (h:src m φ L=.ok (xs,k) L'):∃t,m φ L=.ok t L'/\items t L'=some xs/\k=stays t L':=by
 obtain⟨t,L1,e1,h⟩:=R.of h;cases ei:items t L1 with
 | none=>rw [ei] at h;cases h
 | some ys=>rw [ei] at h;cases h;exact⟨t,e1,ei,rfl⟩
theorem Inv.Jv {X:Cx} {pins:bf} {φ:Fr} {g:G} {L:aa} {s:Vc} {xs:List T} {k:aa->Prop} {o:Obj} {tn:Nat->Heap->Prop} (I:Inv X pins φ g L s) (T:Turn X.prog X.w tg g xs k [s.heap.objs.size] s.heap.objs.size tn) (h0:tn 0 (s.heap.push o)):IT X pins φ g tg xs k L (.ref s.heap.objs.size) { s with heap:=s.heap.push o }:=by
 refine⟨_,_,_,g,rfl,.refl g,I.kept (t':=s.toks) fun b o e=>U1 _ e,T,h0,fun b hb=>?_⟩;have z:b=s.heap.objs.size:=by simpa using hb
 subst z;exact I.uc (Vm _) I.fresh
theorem IT.le {X:Cx} {pins:bf} {φ:Fr} {g g1:G} {L':aa} {xs:List T} {k:aa->Prop} {u:U8} {s':Vc} (h:IT X pins φ g1 tg xs k L' u s') (l:Le g g1):IT X pins φ g tg xs k L' u s':=let ⟨a,b,c,d,e,f,r⟩:=h;⟨a,b,c,d,e,l.trans f,r⟩
theorem RT.sV {g:G} {p:Option (VJ × VJ)} {t:T} {L:aa} {z:Cs} {x:Str} {k:Tok} (r:RT g p t (.str x k)) (e:vw L t=.str z):t=.str z:=by
 cases t with
 | ref n=>cases r
 | _=>exact e
theorem lj (he:PE X e m):PI X tg e (src m):=fun I h=>by
 obtain⟨t,e1,ei,rfl⟩:=FP h;refine thn (he I e1) fun v s1 ⟨g1,l1,I1,r1⟩=>?_
 obtain⟨p,r⟩:=I1.view r1;unfold items at ei;cases ev:vw _ t with
 | lst xs =>
  rw [ev] at ei r;cases ei;obtain⟨a,its,n,rfl,e2,rv,_⟩:=I1.lst r;exact wpAny_pyIter_list (ah e2) ((I1.Jv (xl r1 ev) ⟨_,U9 _ rfl,rfl,rfl⟩).le l1)
 | tup xs =>
  rw [ev] at ei r;cases ei;obtain⟨a,its,rfl,e2,rv,_⟩:=I1.tupP r;exact wpAny_pyIter_tuple (show s1.heap.IsTuple a its from e2) ((I1.Jv (yC r1 ev) ⟨_,U9 _ rfl,rfl,rfl⟩).le l1)
 | str z =>
  rw [ev] at ei r;cases ei;obtain⟨tk,rfl,hz⟩:=r.ju;obtain rfl:=r1.sV ev;cases ha:(⟨z.toArray⟩:Str).cps.all (·<128)
  ·exact wpAny_pyIter_wide ha ((I1.Jv (rK _ (.inr rfl)) ⟨_,U9 _ rfl,rfl,rfl⟩).le l1)
  ·exact wpAny_pyIter_ascii ha ((I1.Jv (rK _ (.inl rfl)) ⟨_,U9 _ rfl,rfl,rfl⟩).le l1)
 | _=>rw [ev] at ei;cases ei
theorem rM {X:Cx} {pins:bf} {φ:Fr} {g:G} {L:aa} {s:Vc} {E:U8->Vc->Prop} {lo hi:Int} {t u v:Tok} {tk:Nat} (I:Inv X pins φ g L s) (h1:t6 lo) (h2:t6 hi) :
  Vq (model X.prog X.w) X.A (pyIter (.ref s.heap.objs.size)) (IT X pins φ g tg (upTo lo (hi - lo).toNat) (fun _=>True) L) E { s with heap:=s.heap.push { cls:=.type "range",data:=.fields #[.int lo t,.int hi u,.int 1 v] },toks:=tk }:=by
 refine wpAny_pyIter_range (IsRange.new ..) (small_one h1.1 h1.2 h2.1 h2.2) ?_;have I1:Inv X pins φ g L { s with heap:=s.heap.push { cls:=.type "range",data:=.fields #[.int lo t,.int hi u,.int 1 v] },toks:=tk }:=I.kept fun b o e=>U1 _ e
 refine I1.Jv uf ?_;have e2:(((hi - lo).toNat:Nat):Int) - ((0:Nat):Int)=Builtin.Range.rangeSize lo hi 1:=by rw [rangeSize_one];split <;> omega
 show IsRangeIter _ _ (lo+((0:Nat):Int) * 1) ((((hi - lo).toNat:Nat):Int) - ((0:Nat):Int)) 1;rw [show lo+((0:Nat):Int) * 1=lo by simp,e2];exact U9 _ rfl
theorem yG {φ:Fr} {L L':aa} {xs:List T} {k:aa->Prop} (h:yl ma mb φ L=.ok (xs,k) L'):∃i j L1,ma φ L=.ok (.int i) L1/\mb φ L1=.ok (.int j) L'/\t6 i/\t6 j/\xs=upTo i (j - i).toNat/\k=fun _=>True:=by
 obtain⟨x,L1,e1,h⟩:=R.of h;obtain⟨y,L2,e2,h⟩:=R.of h;cases x with
 | int i =>
  cases y with
  | int j =>
   obtain⟨q,h⟩:=aC h;cases h;exact⟨_,_,L1,e1,e2,q.1,q.2,rfl,rfl⟩
  | _=>cases h
 | _=>cases h
theorem Ca (hg:Gl X "range") (hm:X.mg "range"=none) (ha:PE X a ma) (hs:bh a=true):PI X tg (.Call (.Name "range" p) [a] [] pos) (yl (c (.int 0)) ma):=fun I h=>by
 obtain⟨i,j,L1,e1,e2,z1,z2,rfl,rfl⟩:=yG h;cases e1;refine Call_ (gg I hg hm boot_range (XT (thn (jL ha p6 hs pos I (Ju e2)) fun us s1 ⟨g1,l1,I1,r1⟩=>?_) (az hs) rfl) (by decide) (by decide));cases r1 with
 | cons r rr =>
  cases rr;obtain⟨_,rfl⟩:=r.iI;exact call_range_1 (wpAny_mono (rM I1 z1 z2) (fun _ _ z=>z.le l1) fun _ _ z=>z)
theorem Cb (hg:Gl X "range") (hm:X.mg "range"=none) (ha:PE X a ma) (hb:PE X b mb) (hs:bh a=true) (tU:bh b=true):PI X tg (.Call (.Name "range" p) [a,b] [] pos) (yl ma mb):=fun I h=>by
 obtain⟨i,j,L1,e1,e2,z1,z2,rfl,rfl⟩:=yG h;refine Call_ (gg I hg hm boot_range (XT (thn (jL ha (jL hb p6 tU) hs pos I (Nb e1 e2)) fun us s1 ⟨g1,l1,I1,r1⟩=>?_) (az hs) (by rw [az tU];rfl)) (by decide) (by decide));cases r1 with
 | cons r rr =>
  cases rr with
  | cons r' rr =>
   cases rr;obtain⟨_,rfl⟩:=r.iI;obtain⟨_,rfl⟩:=r'.iI;exact call_range_2 (wpAny_mono (rM I1 z1 z2) (fun _ _ z=>z.le l1) fun _ _ z=>z)
theorem FQ {elts:List Expr} {x1:Nat} {Nc:Pos} (hg:Gl X "enumerate") (hm:X.mg "enumerate"=none) (ha:PE X a ma) (hs:bh a=true):PI X (.Tuple elts x1 Nc) (.Call (.Name "enumerate" p) [a] [] pos) (Mz ma):=fun I h=>by
 obtain⟨t,L1,e3,h⟩:=R.of h;refine wpAny_Call_Name_kw (gg I hg hm boot_enumerate ?_ (by decide) (by decide));refine XT (thn (jL ha p6 hs pos I (Ju e3)) fun us s1 ⟨g1,l1,I1,r1⟩=>?_) (az hs) rfl;cases r1 with
 | cons r rr =>
  cases rr;obtain⟨p,rv⟩:=I1.view r;cases ev:vw L1 t with
  | lst ys =>
   rw [ev] at h rv;cases h;obtain⟨a,its,n,rfl,e2,rr,_⟩:=I1.lst rv;refine call_enumerate_list (ah e2) fun h' he hit hz' hk=>wpAny_pyIter_enum he ?_
   refine⟨s1.heap.objs.size+1,[s1.heap.objs.size+1,s1.heap.objs.size],_,g1,rfl,l1,I1.kept (t':=s1.toks) hk,xm (Nat.succ_ne_self _) r ev,⟨⟨_,he⟩,hit⟩,fun b hb=>?_⟩;have hb':s1.heap.objs.size<=b:=by
    rcases(by simpa using hb:b=s1.heap.objs.size+1\/b=s1.heap.objs.size) with z|z <;> rw [z]
    ·exact Xe _
    ·exact Vm _
   exact I1.uc hb' (I1.hok.fresh hb')
  | _=>rw [ev] at h;cases h
theorem jv {fp:List VJ} {h:Heap} {b:VJ} {o:Obj} (hb:b∈fp) (e:h.get? b=some o):(b,o)∈fp.filterMap fun b=>(h.get? b).map fun o=>(b,o):=Zn.mpr ⟨b,hb,by rw [e];rfl⟩
theorem Inv.pinned {X:Cx} {pins:bf} {φ:Fr} {g:G} {L:aa} {s:Vc} {fp:List VJ} (I:Inv X pins φ g L s) (hf:∀b∈fp,gx X pins g.H b) (ho:∀b∈fp,∃o,s.heap.get? b=some o/\∀v,o.data≠.cell v) :
  Inv X (pins++fp.filterMap fun b=>(s.heap.get? b).map fun o=>(b,o)) φ g L s :=
 I.iT fun p hp=>(Vd.mp hp).elim (I.pin p) fun z=>by
  obtain⟨b,hb,e⟩:=Zn.mp z;obtain⟨o,e',d⟩:=ho b hb;rw [e'] at e;cases e;exact⟨e',(hf b hb).1,(hf b hb).2.1,d⟩
theorem Inv.mY {X:Cx} {pins pl:bf} {φ:Fr} {g:G} {L:aa} {s:Vc} (I:Inv X (pins++pl) φ g L s):Inv X pins φ g L s:=I.iT fun p hp=>I.pin p (Va _ hp)
noncomputable def jw:Expr->Bool
 | .Set ..=>false
 | _=>true
theorem vS {env:Env} (h:jw e=true):∀x,foldedSetIterable e env x=pure x:=fun x=>by
 cases e <;> first|rfl|cases h
theorem FU {sb:List Stmt} {mi:SI} {t:Tg} {mb:SS} (hi:PI X tg e mi) (hg:PG X tg t) (hb:yr X sb mb) (hs:jw e=true):PS X (.For tg e sb [] pos) (bG mi t mb):=fun {pins φ g L s} I h=>by
 obtain⟨⟨xs,k⟩,L1,e1,e2,h⟩:=iw h;rw [show bG mi t mb φ L=_ from e2];clear e2;refine wpAny_For (thn (hi I e1) fun v s1 h1=>thn h1 fun Na s2 ⟨it,fp,tn,g2,e,l2,I2,T,bz,f2⟩=>?_) (vS hs);subst e;have uh:∀{H':Hp},(∀b∈fp,H' b=none)->∀b∈fp,gx X pins H' b:=fun hn b hb=>⟨hn b hb,(f2 b hb).2⟩
 generalize ho:forL k t mb xs φ L1=o at h;refine codeAny_forLoop_any (fun n s'=>∃i φ' g' L',n=xs.length - i/\i<=xs.length/\Le g2 g'/\Inv X pins φ' g' L' s'/\tn i s'.heap/\(∀b∈fp,g'.H b=none)/\forL k t mb (xs.drop i) φ' L'=o) ?_ xs.length
  ⟨0,φ,g2,L1,rfl,VK _,.refl g2,I2,bz,fun b hb=>(f2 b hb).1,ho⟩
 rintro n s3 ⟨i,φ3,g3,L3,rfl,hi,l3,I3,Jw,P5,eq⟩;by_cases bQ:i<xs.length
 ·rw [WE bQ] at eq
  unfold forL at eq;by_cases hk:k L3
  ·rw [if_pos hk] at eq
   refine wpAny_passesOwn Xv (wpAny_mono (T.item rfl rfl l3 I3 (uh P5) Jw hk (Ge9 bQ)) (fun r s4 ⟨u,hr,h4⟩=>?_) fun _ _ z=>z);subst hr;refine wpAny_passesOwn Xv (wpAny_mono h4 (fun _ s5 ⟨g5,l5,I5,r5,FV,Nd⟩=>?_) fun _ _ z=>z);have RH:=I5.pinned (uh Nd) (T.obj _ _ FV)
   cases ef:t.set xs[i] φ3 with
   | none=>rw [ef] at eq;exact absurd eq.symm h
   | some φ6 =>
    simp only [ef] at eq;refine wpAny_passesOwn Xv (thn (hg RH r5 ef) fun _ s6 I6=>?_);have hb':mb φ6 L3≠.bad:=fun z=>by rw [z] at eq;exact absurd eq.symm h
    refine wpAny_passesOwn Xv (thn (hb I6 hb') fun f s7 ⟨g7,l7,q7⟩=>?_);have Nf:=(l3.trans l5).trans l7
    have again:∀{φ7:Fr} {L7:aa},Inv X (pins++fp.filterMap fun b=>(s5.heap.get? b).map fun o=>(b,o)) φ7 g7 L7 s7->forL k t mb (xs.drop (i+1)) φ7 L7=o->∃m,m<xs.length - i/\∃j φ' g' L',m=xs.length - j/\j<=xs.length/\Le g2 g'/\Inv X pins φ' g' L' s7/\tn j s7.heap/\(∀b∈fp,g'.H b=none)/\forL k t mb (xs.drop j) φ' L'=o:=fun {φ7 L7} I7 h7=>by
     refine⟨xs.length - (i+1),by omega,i+1,φ7,g7,L7,rfl,bQ,Nf,I7.mY,T.keep _ _ _ FV fun b hb o e=>(I7.pin (b,o) (Vh _ (jv hb e))).1,fun b hb=>?_,h7⟩;obtain⟨o,e,d⟩:=T.obj _ _ FV b hb;exact(I7.pin (b,o) (Vh _ (jv hb e))).2.1
    cases eb:mb φ6 L3 with
    | bad=>exact absurd eb hb'
    | nx φ7 L7 =>
     rw [eb] at q7 eq;cases f <;> first|exact q7.elim|exact again q7 eq
    | ct φ7 L7 =>
     rw [eb] at q7 eq;cases f <;> first|exact q7.elim|exact again q7 eq
    | bk φ7 L7 =>
     rw [eb] at q7 eq;subst eq;cases f <;> first|exact q7.elim|exact⟨g7,l2.trans Nf,q7.mY⟩
    | rt t7 L7 =>
     rw [eb] at q7 eq;subst eq;cases f <;> first|exact q7.elim|exact⟨g7,l2.trans Nf,⟨_,q7.1.choose_spec.mY⟩,q7.2⟩
  ·rw [if_neg hk] at eq;exact absurd eq.symm h
 ·have ei:i=xs.length:=by omega
  rw [aaj (by omega)] at eq;unfold forL at eq;by_cases hk:k L3
  ·rw [if_pos hk] at eq
   subst eq;refine wpAny_passesOwn Xv (wpAny_mono (T.done rfl rfl l3 I3 (uh P5) Jw hk ei) (fun r s4 ⟨hr,I4⟩=>?_) fun _ _ z=>z);subst hr;exact wpAny_execs_nil ⟨g3,l2.trans l3,I4⟩
  ·rw [if_neg hk] at eq;exact absurd eq.symm h
end
noncomputable def aX (env:Env):List (Str × NameKind)->List (Str × VJ)->List (Str × VJ)
 | [],cs=>cs
 | (n,k)::r,cs=>if (k == WI)=true then aX env r ((n,(env.cells.lookup n).getD 0)::cs) else aX env r cs
theorem gh {env:Env}:∀(names:List (Str × NameKind)) (cs:List (Str × VJ)),(∀y∈names,y.2=.free->(env.cells.lookup y.1).isSome=true) ->
  (forIn names cs (fun x (cs:List (Str × VJ))=>(match x with|(name,kind)=>if (kind == WI)=true then (do let a <- cellOf env name;pure (XU ((name,a)::cs))) else pure (XU cs):Sem (ForInStep (List (Str × VJ))))):Sem (List (Str × VJ)))=pure (aX env names cs)
 | [],cs,_=>rfl
 | (n,k)::r,cs,h=>by
  have hr:∀y∈r,y.2=.free->(env.cells.lookup y.1).isSome=true:=fun y hy=>h y (U5 _ hy)
  rw [XW];by_cases hk:(k == WI)=true
  ·have e:k=.free:=by simpa using hk
   have hs:=h (n,k) U4 e;obtain⟨a,ha⟩:=V9.mp hs;simp only [hk,if_true,aX,cellOf,ha,Xi,pure_bind];exact gh r _ hr
  ·simp only [hk,aX,pure_bind,Vi,if_false]
   exact gh r _ hr
theorem ui {env:Env} {scope:Scope} (h:∀y∈scope.names,y.2=.free->(env.cells.lookup y.1).isSome=true):closureFor scope env=pure (aX env scope.names []):=by
 have e:=gh (env:=env) scope.names [] h;unfold closureFor;simp only [bind_pure_comp,map_pure] at e ⊢;rw [<- e];simp
theorem jO {env:Env}:∀{names:List (Str × NameKind)} {cs:List (Str × VJ)} {y:Str} {c:VJ},(∀z∈names,z.2=.free->(env.cells.lookup z.1).isSome=true)->(∀y c,cs.lookup y=some c->env.cells.lookup y=some c) ->
  (aX env names cs).lookup y=some c->env.cells.lookup y=some c
 | [],_,_,_,_,hc,h=>hc _ _ h
 | (n,k)::r,cs,y,c,hn,hc,h=>by
  have hr:∀z∈r,z.2=.free->(env.cells.lookup z.1).isSome=true:=fun z hz=>hn z (U5 _ hz)
  unfold aX at h;by_cases hk:(k == WI)=true
  ·rw [if_pos hk] at h
   have e:k=.free:=by simpa using hk
   obtain⟨a,ha⟩:=V9.mp (hn (n,k) U4 e);refine jO hr (fun z d q=>?_) h;rw [Vy] at q;cases hz:z == n with
   | true =>
    have ez:z=n:=by simpa using hz
    rw [hz] at q;simp only [ha,Xi] at q;have ha':env.cells.lookup n=some a:=ha
    rw [ez,ha'];exact q
   | false =>
    rw [hz] at q;exact hc z d q
  ·rw [if_neg hk] at h
   exact jO hr hc h
theorem jP {env:Env}:∀{names:List (Str × NameKind)} {cs:List (Str × VJ)} {y:Str},((y,WI)∈names\/(cs.lookup y).isSome=true)->((aX env names cs).lookup y).isSome=true
 | [],_,_,h=>by
  rcases h with h|h
  ·cases h
  ·exact h
 | (n,k)::r,cs,y,h=>by
  unfold aX;have key:∀a:VJ,(cs.lookup y).isSome=true->(Z0 y ((n,a)::cs)).isSome=true:=fun a q=>by
   rw [Vy];cases y == n with
   | true=>rfl
   | false=>exact q
  by_cases hk:(k == WI)=true
  ·rw [if_pos hk]
   refine jP ?_;rcases h with h|h
   ·rcases Vn.mp h with e|h
    ·cases e
     refine .inr ?_;rw [Vy];simp
    ·exact .inl h
   ·exact .inr (key _ h)
  ·rw [if_neg hk]
   refine jP ?_;rcases h with h|h
   ·rcases Vn.mp h with e|h
    ·cases e
     exact absurd (by simp) hk
    ·exact .inl h
   ·exact .inr h
theorem jQ {scope:Scope} {env:Env} {y:Str} {k':NameKind} (h:(relabel scope env).names.lookup y=some k'):∃k,scope.names.lookup y=some k/\(k'=k\/(k=.free/\k'=.cell)):=by
 have go:∀(names:List (Str × NameKind)),(names.map fun(n,k)=>if (k == WI && env.scope.kind == .function && env.kindOf n == some .cell) then (n,Z1) else (n,k)).lookup y=some k' ->
   ∃k,names.lookup y=some k/\(k'=k\/(k=.free/\k'=.cell)):=by
  intro names;induction names with
  | nil=>intro h;simp at h
  | cons a r ih =>
   obtain⟨n,k⟩:=a;intro h;rw [Vg] at h;by_cases hc:(k == WI && env.scope.kind == .function && env.kindOf n == some .cell)=true
   ·simp only [hc,if_true,Vy] at h
    rw [Vy];cases hy:y == n with
    | true =>
     rw [hy] at h;have hk:k=.free:=by
      simp only [Ve,beq_iff_eq] at hc;exact hc.1.1
     exact⟨k,rfl,.inr ⟨hk,(WN h).symm⟩⟩
    | false =>
     rw [hy] at h;exact ih h
   ·simp only [hc,Vi,if_false,Vy] at h
    rw [Vy];cases hy:y == n with
    | true =>
     rw [hy] at h;exact⟨k,rfl,.inl (WN h).symm⟩
    | false =>
     rw [hy] at h;exact ih h
 exact go scope.names h
theorem jR {scope:Scope} {env:Env} {y:Str} (h:scope.names.lookup y=some .free):(relabel scope env).names.lookup y=some .cell\/(relabel scope env).names.lookup y=some .free:=by
 have go:∀(names:List (Str × NameKind)),names.lookup y=some .free->(names.map fun(n,k)=>if (k == WI && env.scope.kind == .function && env.kindOf n == some .cell) then (n,Z1) else (n,k)).lookup y=some .cell \/
   (names.map fun(n,k)=>if (k == WI && env.scope.kind == .function && env.kindOf n == some .cell) then (n,Z1) else (n,k)).lookup y=some .free:=by
  intro names;induction names with
  | nil=>intro h;simp at h
  | cons a r ih =>
   obtain⟨n,k⟩:=a;intro h;rw [Vg];rw [Vy] at h;by_cases hc:(k == WI && env.scope.kind == .function && env.kindOf n == some .cell)=true
   ·simp only [hc,if_true,Vy]
    cases hy:y == n with
    | true=>exact .inl rfl
    | false =>
     rw [hy] at h;exact ih h
   ·simp only [hc,Vi,if_false,Vy]
    cases hy:y == n with
    | true =>
     rw [hy] at h;have h':k=.free:=WN h
     exact .inr (by rw [h'])
    | false =>
     rw [hy] at h;exact ih h
 exact go scope.names h
theorem qb {prog:Wh} {w:Xg} {A:VZ} {R:Result->Vc->Prop} {s:Vc} {elt target iter:Expr} {ifs:List Expr} {scope:Scope} {pos:Pos} {it acc:U8} {env:Env} (I:Nat->Vc->Prop)
  (turn:∀n s,I n s->Vq (model prog w) A (pyNext it) (fun r s₁=>match r with
   | none=>R (.ok .next) s₁
   | some v=>Vq (model prog w) A (letOwnedTupleGo target it v) (fun _ P6=>Vq (model prog w) A (assign target env v) (fun _ s₂ =>
     Vq (model prog w) A (forIn ifs true fun c r=>if r=true then do let ok <- isTrue c env (eval c env);pure (XU ok) else pure (XU r)) (fun ok s₃ =>
      if ok=true then Vq (model prog w) A (eval elt env) (fun x s₄ =>
       Vq (model prog w) A (call (.builtin "list.append") [acc,x]) (fun _ s₅=>∃m,m<n/\I m s₅) (fun _ _=>False) s₄) (fun _ _=>False) s₃
      else ∃m,m<n/\I m s₃) (fun _ _=>False) s₂) (fun _ _=>False) P6) (fun _ _=>False) s₁) (fun _ _=>False) s)
  (n:Nat) (h:I n s):codeAny (model prog w) A (.compLoop (.ListComp elt [⟨target,iter,ifs,0⟩] scope pos) 0 it acc env) R s:=by
 refine codeAny_loop rfl I (fun n s hI=>?_) n h;show Vq _ A ((compTurn (.ListComp elt [⟨target,iter,ifs,0⟩] scope pos) 0 it acc env).onRaise (fun x=>do noteFrame x env;theTreesLotGoes x)) _ _ s
 refine wpAny_noted ?_;rw [compTurn_list];refine U0 (wpAny_standAt (U0 (wpAny_mono (turn n s hI) (fun r s₁ h₁=>?_) fun _ _ h'=>h'.elim)));cases r with
 | none=>exact U2 h₁
 | some v =>
  refine U0 (wpAny_mono h₁ (fun _ P6 RI=>?_) fun _ _ h'=>h'.elim);refine U0 (wpAny_mono RI (fun _ s₂ h₂=>U0 (wpAny_mono h₂ (fun ok s₃ h₃=>?_) fun _ _ h'=>h'.elim)) fun _ _ h'=>h'.elim);cases ok with
  | false=>exact U2 ⟨rfl,h₃⟩
  | true =>
   exact U0 (U0 (wpAny_mono h₃ (fun x s₄ h₄=>U0 (wpAny_mono h₄ (fun _ s₅ h₅=>U2 (U2 ⟨rfl,h₅⟩)) fun _ _ h'=>h'.elim)) fun _ _ h'=>h'.elim))
noncomputable def de (X:Cx) (scope:Scope) (cl:List (Str × VJ)) (N:List Str) (C:VJ) (s₀:Vc) (H₀:Hp) (ex:List VJ):Cx:={ X with N:=N,s₀:=s₀,H₀:=H₀,env:=compEnvC scope cl C X.env,ex:=ex,fn:=fun _=>false }
structure mZ (X:Cx) (scope:Scope) (N:List Str) (aY:List (Option Nat)):Prop where
 kind:scope.kind=.function
 m4:∀y∈scope.names,y.2≠.cell
 locs:∀y∈scope.names,y.2=.local->scope.names.lookup y.1=some .local
 frees:∀y∈scope.names,y.2=.free->(X.env.scope.names.lookup y.1=some .cell\/X.env.scope.names.lookup y.1=some .free)
 RJ:∀(i:Nat) y j,N[i]?=some y->aY[i]?=some (some j)->X.N[j]?=some y/\scope.names.lookup y=some .free
 nd:N.Nodup
 len:N.length=aY.length
section
variable {X:Cx} {pins:bf} {φ:Fr} {g:G} {L:aa} {s:Vc}
theorem Inv.weak {φ':Fr} (I:Inv X pins φ g L s) (hl:φ'.length=φ.length) (w:∀(i:Nat) t,φ'[i]?=some (some t)->φ[i]?=some (some t)):Inv X pins φ' g L s :=
 { I with loc:=let ⟨m,hn,hl'⟩:=I.loc;⟨m,hn,fun i x v e1 e2 e3=>hl' i x v e1 (w i v e2) e3⟩,len:=hl.trans I.len }
theorem Inv.Jy {a:VJ} {o:Obj} (I:Inv X pins φ g L s) (f:gx X pins g.H a) (h:s.heap.get? a=some o):Inv X pins φ (g.lay a o) L s:=by
 refine I.step (g1:=s.gens) (t':=s.toks) (d':=s.drawn) (h':=s.heap) (ch:=[a]) (Le.lay f.1) (fun b hb=>?_) (fun b u _ _ e _=>e) (fun b u hb e n=>(aA (fun z=>hb (by simp [z]))).trans n) (fun _ m=>m) (fun b c u e=>?_) I.bare (I.rel.le (Le.lay f.1) rfl fun b u e=>aA (fun z=>by rw [z,f.1] at e;cases e))
 ·have z:b=a:=by simpa using hb
  subst z;exact⟨f.2.2.1,f.2.1,f.2.2.2⟩
 ·by_cases hb:b=a
  ·subst hb
   have e':some (true,o)=some (c,u):=(ar (H:=g.H)).symm.trans e;cases e';exact h
  ·exact I.hok b c u ((aA hb).symm.trans e)
theorem Inv.FW {a:VJ} {o:Obj} {c:T} (I:Inv X pins φ g L s) (f:gx X pins g.H a) (h:s.heap.get? a=some o) (hc:RT (g.new a o) (some (a,a)) c (.ref a)):Inv X pins φ (g.new a o) (c::L) s:=by
 refine I.step (g1:=s.gens) (t':=s.toks) (d':=s.drawn) (h':=s.heap) (ch:=[a]) (Le.new f.1) (fun b hb=>?_) (fun b u _ _ e _=>e) (fun b u hb e n=>(aA (fun z=>hb (by simp [z]))).trans n) (fun _ m=>m) (fun b c u e=>?_) I.bare (I.rel.new f.1 hc)
 ·have z:b=a:=by simpa using hb
  subst z;exact⟨f.2.2.1,f.2.1,f.2.2.2⟩
 ·by_cases hb:b=a
  ·subst hb
   have e':some (false,o)=some (c,u):=(ar (H:=g.H)).symm.trans e;cases e';exact h
  ·exact I.hok b c u ((aA hb).symm.trans e)
theorem uj {scope:Scope} {N:List Str} {aY:List (Option Nat)} {s3:Vc} {h1:Heap} {ex:List VJ} {m:Str->Option U8} {tk:Nat} (ok:mZ X scope N aY) (I:Inv X pins φ g L s3)
  (hf:∀b∈ex,gx X pins g.H b) (bQ:∀b∈ex,b<s3.heap.objs.size) (hn:h1.Ns s3.heap.objs.size m) (keep:∀b o,s3.heap.get? b=some o->h1.get? b=some o) :
  Inv (de X scope (aX X.env scope.names []) N s3.heap.objs.size s3 g.H ex) [] (inner aY φ) g L { s3 with heap:=h1,toks:=tk }:=by
 have vT:∀z∈scope.names,z.2=.free->(X.env.cells.lookup z.1).isSome=true:=fun z hz yH=>by
  obtain⟨c,e⟩:=I.ok.has z.1 (ok.frees z hz yH);rw [e];rfl
 have sub:∀y c,(aX X.env scope.names []).lookup y=some c->X.env.cells.lookup y=some c:=fun y c h=>jO vT (fun _ _ q=>by simp at q) h
 refine⟨⟨I.ok.mod,ok.kind,I.ok.glob,I.ok.blt,Vm _,fun y z c e1 e2=>I.ok.inj y z c (sub _ _ e1) (sub _ _ e2),fun y hy=>?_,fun y c M8 _=>absurd M8 (by simp [de]),I.ok.hd,fun b hb=>⟨VB (bQ b hb),fun y c e=>(hf b hb).2.2.2.1 y c (sub _ _ e)⟩,
   I.bs,Vt I.ok.IM I.sz,fun b o e hb=>?_⟩,
  rfl,I.bare,Un.kept keep,⟨m,hn,fun i y v e1 e2 e3=>?_⟩,fun y c e=>?_,I.fresh,fun y c e=>I.rI y c (sub _ _ e),fun p hp=>(by simp at hp),fun a b o e=>keep a o (I.hok a b o e),by show(inner aY φ).length=N.length;rw [ok.len];simp [inner],I.rel,I.gB,I.gm,I.gw⟩
 ·have hy':(relabel scope X.env).names.lookup y=some .cell\/(relabel scope X.env).names.lookup y=some .free:=hy
  have fr:scope.names.lookup y=some .free:=by
   rcases hy' with q|q
   ·obtain⟨k,e,z⟩:=jQ q
    rcases z with z|⟨z,_⟩
    ·exact absurd z.symm (ok.m4 _ (VQ e))
    ·rw [e,z]
   ·obtain⟨k,e,z⟩:=jQ q
    rcases z with z|⟨_,z⟩
    ·rw [e,z]
    ·cases z
  exact V9.mp (jP (.inl (VQ fr)))
 ·rcases(hf b hb).2.2.1 with z|z
  ·exact I.ok.Ff b o e z
  ·exact absurd (VF (Vu e) (Vt I.ok.IM z)) (WG _)
 ·have e2':(aY.map fun o=>o.bind fun i=>(φ[i]?).join)[i]?=some (some v):=e2
  rw [Vs] at e2';cases hj:aY[i]? with
  | none=>rw [hj] at e2';cases e2'
  | some oj =>
   rw [hj] at e2';cases oj with
   | none=>cases e2'
   | some j =>
    obtain⟨eN,hy⟩:=ok.RJ i y j e1 hj;have hσ:φ[j]?=some (some v):=by
     cases q:φ[j]? with
     | none=>simp [q] at e2'
     | some o=>simp [q] at e2';rw [e2']
    have hk:=ok.frees (y,.free) (VQ hy) rfl;obtain⟨m',_,hl⟩:=I.loc;obtain⟨u,r,q⟩:=hl j y v eN hσ (.inr hk);refine⟨u,r,.inr ⟨jR hy,?_⟩⟩;rcases q with⟨k,_⟩|⟨_,c,e,z⟩
    ·have k':X.env.scope.names.lookup y=some .local:=k
     rw [k'] at hk;rcases hk with hk|hk <;> cases hk
    ·obtain⟨c',e'⟩:=V9.mp (jP (env:=X.env) (cs:=[]) (.inl (VQ hy)))
     have ec:=sub _ _ e';rw [e] at ec;cases ec;obtain⟨o,ho,hd⟩:=z;exact⟨c,e',o,keep c o ho,hd⟩
 ·obtain⟨v,o,ho,hd⟩:=I.cell y c (sub _ _ e)
  exact⟨v,o,keep c o ho,hd⟩
noncomputable def FX (X:Cx) (ifs:List Expr) (m:ST):Prop:=∀{pins:bf} {φ:Fr} {g:G} {L:aa} {s:Vc} {w:Bool} {L':aa},Inv X pins φ g L s->m φ L=.ok w L' ->
 Vq (model X.prog X.w) X.A (forIn ifs true fun c r=>if r=true then do let ok <- isTrue c X.env (eval c X.env);pure (XU ok) else pure (XU r)) (TP X pins φ g w L') F0 s
theorem Cc:FX X [] yes:=fun I h=>by cases h;exact wpAny_tests_nil ⟨_,.refl _,I,rfl⟩
theorem Cd {k:Expr} {m:ST} (h:PT X k m):FX X [k] m:=fun I q=>wpAny_tests_one (h _ (.inl rfl) I q)
noncomputable def Tg.slots:Tg->List Nat
 | .one i=>[i]
 | .many is=>is
theorem lq {ψ:Fr}:∀{is:List Nat} {ts:List T} {ψ':Fr},(∀i∈is,ψ[i]?=some none)->(ψ'.length=ψ.length/\∀(i:Nat) t,ψ[i]?=some (some t)->ψ'[i]?=some (some t))->(M.sets is ts ψ').length=ψ.length/\∀(i:Nat) t,ψ[i]?=some (some t)->(sets is ts ψ')[i]?=some (some t)
 | [],_,_,_,h=>by unfold sets;exact h
 | _::_,[],_,_,h=>by unfold sets;exact h
 | j::is,t0::ts,ψ',hi,h=>by
  unfold sets;refine lq (fun i m=>hi i (U5 _ m)) ⟨by simpa using h.1,fun i t e=>?_⟩;rw [Y1]
  ·exact h.2 i t e
  ·rintro rfl
   rw [hi j U4] at e;cases e
theorem Ce {ψ ψ1:Fr} {tg:Tg} {t:T} (hi:∀i∈tg.slots,ψ[i]?=some none) (h:tg.set t ψ=some ψ1):ψ.length=ψ1.length/\∀(i:Nat) t,ψ[i]?=some (some t)->ψ1[i]?=some (some t):=by
 cases tg with
 | one j =>
  cases h;have z:=lq (is:=[j]) (ts:=[t]) hi ⟨rfl,fun _ _ e=>e⟩
  exact⟨z.1.symm,z.2⟩
 | many is =>
  cases t with
  | tup ts =>
   have h':(if ts.length=is.length then some (sets is ts ψ) else none)=some ψ1:=h;split at h'
   ·cases h'
    have z:=lq (ts:=ts) hi ⟨rfl,fun _ _ e=>e⟩;exact⟨z.1.symm,z.2⟩
   ·cases h'
  | _=>cases h
theorem oU {tg iter elt:Expr} {ifs:List Expr} {scope:Scope} {N:List Str} {aY:List (Option Nat)} {mi:SI} {t:Tg} {mt:ST} {me:SE} {pos p:Pos} {use:Option (U8->Sem Unit)} {QQ:U8->Vc->Prop} {xs:List T} {k:aa->Prop} {L1 L2:aa} {ys:List T}
  (ok:mZ X scope N aY) (Eg:∀i∈t.slots,aY[i]?=some none) (hi:PI X tg iter mi) (hg:∀cl C s₀ H₀ ex,PG (de X scope cl N C s₀ H₀ ex) tg t)
  (ht:∀cl C s₀ H₀ ex,FX (de X scope cl N C s₀ H₀ ex) ifs mt) (he:∀cl C s₀ H₀ ex,PE (de X scope cl N C s₀ H₀ ex) elt me) (hs:jw iter=true)
  (I:Inv X pins φ g L s) (h1:mi φ L=.ok (xs,k) L1) (h2:compLoop k t mt me (inner aY φ) xs [] L1=.ok ys L2)
  (fin:∀(D C:VJ) (g':G) (s':Vc) (m:Str->Option U8) (us:List U8) (n:Nat),Le g g'->Inv X pins φ g' L2 s'->cG g' ys us->ys.length<=Vz->s'.heap.get? D=some { cls:=.type "list",data:=.seq us.toArray n }->gx X pins g'.H D->D≠C->s'.heap.Ns C m->gx X pins g'.H C->compPost (model X.prog X.w) X.A F0 use QQ (.ref D) C (.ok .next) s') :
  Vq (model X.prog X.w) X.A (comprehension (.ListComp elt [⟨tg,iter,ifs,0⟩] scope pos) scope X.env p (newList []) false (eval iter X.env) use) QQ F0 s:=by
 have vT:∀z∈scope.names,z.2=.free->(X.env.cells.lookup z.1).isSome=true:=fun z hz yH=>by
  obtain⟨c,e⟩:=I.ok.has z.1 (ok.frees z hz yH);rw [e];rfl
 refine wpAny_comprehension_free (cl:=aX X.env scope.names []) (use:=use) rfl (vS hs) (ui vT) ok.kind ok.locs (thn (hi I h1) fun v s1 h1=>thn h1 fun Na s2 ⟨it,fp,tn,g2,e,l2,I2,T,bz,f2⟩=>?_);subst e;refine wpAny_newObj_type (wpAny_newFunctionEnv ok.m4 (by intro y hy;simp at hy) (fun h₁ FY FZ=>?_) ok.kind);dsimp only at FY FZ ⊢;have Ga:∀b∈fp,b<s2.heap.objs.size:=fun b hb=>by
  obtain⟨o,e,_⟩:=T.obj 0 _ bz b hb;exact Vu e
 generalize hD:s2.heap.objs.size=D at Ga ⊢;have fD:gx X pins g2.H D:=I2.uc (Yt hD) (I2.hok.fresh (Yt hD))
 have hsz:(s2.heap.push { cls:=.type "list",dict:=none,data:=.seq ([]:List U8).toArray }).objs.size=D+1:=by rw [<- hD];exact Wi ..
 have I3:Inv X pins φ g2 L1 { s2 with heap:=s2.heap.push { cls:=.type "list",dict:=none,data:=.seq ([]:List U8).toArray } }:=I2.kept (t':=s2.toks) fun b u e=>U1 _ e
 have Jw:tn 0 (s2.heap.push { cls:=.type "list",dict:=none,data:=.seq ([]:List U8).toArray }):=T.keep _ _ _ bz fun b _ o e=>U1 _ e
 have P7:(s2.heap.push { cls:=.type "list",dict:=none,data:=.seq ([]:List U8).toArray }).get? D=some { cls:=.type "list",data:=.seq ([]:List U8).toArray }:=by rw [<- hD];exact U9 _ rfl
 generalize UC:s2.heap.push { cls:=.type "list",dict:=none,data:=.seq ([]:List U8).toArray }=h3 at FY FZ hsz I3 Jw P7 ⊢;have fx:∀b∈D::fp,gx X pins g2.H b:=fun b hb=>(Vn.mp hb).elim (fun z=>by rw [z];exact fD) (f2 b)
 have Jz:∀b∈D::fp,b<h3.objs.size:=fun b hb=>by
  rw [hsz];rcases Vn.mp hb with z|z
  ·rw [z];exact WH _
  ·exact Wa (Ga b z)
 have keep:∀b o,h3.get? b=some o->h₁.get? b=some o:=fun b o e=>FZ.extBut b o (VB (Vu e)) (U1 _ e)
 have I4:=uj (s3:={ s2 with heap:=h3 }) (ex:=D::fp) (tk:=s2.toks+([]:List (Str × U8)).length) ok I3 fx Jz FY keep;have P8:tn 0 h₁:=T.keep _ _ _ Jw fun b _ o e=>keep b o e
 generalize BU:de X scope (aX X.env scope.names []) N ({ s2 with heap:=h3 }:Vc).heap.objs.size { s2 with heap:=h3 } g2.H (D::fp)=X' at I4;have eA:X'.A=X.A:=by rw [<- BU] <;> rfl
 have eP:X'.prog=X.prog:=by rw [<- BU] <;> rfl
 have ew:X'.w=X.w:=by rw [<- BU] <;> rfl
 have ee:X'.env=compEnvC scope (aX X.env scope.names []) h3.objs.size X.env:=by rw [<- BU] <;> rfl
 have hG':PG X' tg t:=by rw [<- BU];exact hg _ _ _ _ _
 have hT':FX X' ifs mt:=by rw [<- BU];exact ht _ _ _ _ _
 have hE':PE X' elt me:=by rw [<- BU];exact he _ _ _ _ _
 have uh:∀{H':Hp} {b:VJ},b∈D::fp->H' b=none->gx X' [] H' b:=fun {H' b} hb hn=>by
  refine⟨hn,?_,.inl ?_,fun y c e=>?_,fun p hp=>by simp at hp⟩
  ·rw [ee];exact VB (Jz b hb)
  ·rw [<- BU];exact hb
  ·have e':(aX X.env scope.names []).lookup y=some c:=by rw [ee] at e;exact e
   exact(fx b hb).2.2.2.1 y c (jO vT (fun _ _ q=>by simp at q) e')
 have JA:D∉fp:=fun z=>WG _ (Ga D z)
 have leave:∀{ψ:Fr} {g':G} {s':Vc} {us:List U8} {n:Nat},Le g2 g'->Inv X' [] ψ g' L2 s'->cG g' ys us->ys.length<=Vz->s'.heap.get? D=some { cls:=.type "list",data:=.seq us.toArray n }->g'.H D=none->compPost (model X.prog X.w) X.A F0 use QQ (.ref D) h3.objs.size (.ok .next) s':=fun {ψ g' s' us n} l J r hz hd hn=>by
  have un:Un (D::fp) g2.H g'.H h3 s'.heap:=by have z:=J.base;rw [<- BU] at z;exact z
  have Cf:s'.os=s2.os:=by have z:=J.os;rw [<- BU] at z;exact z
  have Jx:=Inv.call (s:={ s2 with heap:=h3 }) (s':=s') (ch:=D::fp) I3 l Cf un J.hok J.bare J.rel fun b hb=>⟨(fx b hb).2.2.1,(fx b hb).2.1,(fx b hb).2.2.2⟩
  obtain⟨m,xn,_⟩:=J.loc;have hn':s'.heap.Ns h3.objs.size m:=by rw [ee] at xn;exact xn
  have yH:g'.H h3.objs.size=none:=by have z:=J.free;rw [ee] at z;exact z
  exact fin D _ g' s' m us n (l2.trans l) Jx r hz hd ⟨hn,fD.2⟩ (VB (by rw [hsz];exact WH _)) hn' (I3.uc (Vm _) yH)
 have loop:∀s₃:Vc,s₃={ s2 with heap:=h₁,toks:=s2.toks+([]:List (Str × U8)).length } ->
   codeAny (model X.prog X.w) X.A (.compLoop (.ListComp elt [⟨tg,iter,ifs,0⟩] scope pos) 0 (.ref it) (.ref D) (compEnvC scope (aX X.env scope.names []) h3.objs.size X.env)) (compPost (model X.prog X.w) X.A F0 use QQ (.ref D) h3.objs.size) s₃:=by
  rintro s₃ rfl;have JB:∀{ψ:Fr} {g':G} {L':aa} {s':Vc} {o:Obj},Inv X' [] ψ g' L' s'->s'.heap.get? D=some o->g'.H D=none->(∀v,o.data≠.cell v)->Inv X' [(D,o)] ψ g' L' s':=fun {ψ g' L' s' o} J e n d=>J.iT fun p hp=>by
   have z:p=(D,o):=by simpa using hp
   subst z;exact⟨e,n,(uh U4 n).2.1,d⟩
  refine qb (fun n s'=>∃i acc us nn g' L',n=xs.length - i/\i<=xs.length/\Le g2 g'/\Inv X' [(D,{ cls:=.type "list",data:=.seq (us:List U8).toArray nn })] (inner aY φ) g' L' s'/\tn i s'.heap/\(∀b∈fp,g'.H b=none)/\cG g' acc us/\acc.length<=Vz /\
   compLoop k t mt me (inner aY φ) (xs.drop i) acc L'=.ok ys L2) ?_ xs.length ⟨0,[],[],0,g2,L1,rfl,VK _,.refl g2,JB I4 (keep D _ P7) fD.1 (fun v z=>nomatch z),P8,fun b hb=>(f2 b hb).1,.nil,VK _,h2⟩
  intro n s' hj;refine oz fun G n9=>?_
  obtain⟨i,acc,us,nn,g3,L3,en,hi,l3,J,eD,P9,ra,hz,eq⟩:=hj;refine n9 ?_;clear n9 G;subst en;have Ng:∀{H':Hp} {o:Obj},(∀b∈fp,H' b=none)->∀b∈fp,gx X' [(D,o)] H' b:=fun {H' o} hn b hb=>by
   have z:=uh (U5 _ hb) (hn b hb);refine⟨z.1,z.2.1,z.2.2.1,z.2.2.2.1,fun p hp e=>?_⟩;have zp:p=(D,o):=by simpa using hp
   subst zp;exact JA (by rw [show D=b from e];exact hb)
  by_cases bQ:i<xs.length
  ·rw [WE bQ] at eq
   unfold compLoop at eq;split at eq
   ·rename_i hk
    obtain⟨hk,RK⟩:=hk;have z:=T.item eP ew (E:=F0) l3 J (Ng P9) eD hk (Ge9 bQ)
    rw [eA] at z;refine wpAny_mono z (fun r s4 ⟨u,hr,h4⟩=>?_) fun _ _ z=>z
    subst hr;refine wpAny_mono h4 (fun _ s5 ⟨g5,l5,J5,r5,FV,Nd⟩=>?_) fun _ _ z=>z
    have RL:=J5.pinned (Ng Nd) (T.obj _ _ FV);cases ef:t.set xs[i] (inner aY φ) with
    | none=>rw [ef] at eq;cases eq
    | some ψ1 =>
     simp only [ef] at eq;have wk:=Ce (fun i hi=>by show(aY.map _)[i]?=_;rw [Vs,Eg i hi];rfl) ef
     have zg:=hG' RL r5 ef;rw [eP,ew,eA,ee] at zg;refine thn zg fun _ s6 J6=>?_
     obtain⟨b,L7,e7,eq⟩:=R.of eq;have zt:=hT' J6 e7
     rw [eP,ew,eA,ee] at zt;refine thn zt fun b' s7 ⟨g7,l7,J7,e⟩=>?_
     subst e;have again:∀{g8:G} {L8:aa} {s8:Vc} {eH:List M.T} {us':List U8} {n':Nat},Le g7 g8->Inv X' [] ψ1 g8 L8 s8->(∀b∈fp,∀o,s5.heap.get? b=some o->s8.heap.get? b=some o/\g8.H b=none)->s8.heap.get? D=some { cls:=.type "list",data:=.seq us'.toArray n' }->g8.H D=none->cG g8 eH us'->eH.length<=Vz ->
       compLoop k t mt me (inner aY φ) (xs.drop (i+1)) eH L8=.ok ys L2->∃m,m<xs.length - i/\∃j acc us nn g' L',m=xs.length - j/\j<=xs.length/\Le g2 g'/\Inv X' [(D,{ cls:=.type "list",data:=.seq (us:List U8).toArray nn })] (inner aY φ) g' L' s8/\tn j s8.heap/\(∀b∈fp,g'.H b=none)/\cG g' acc us/\acc.length<=Vz/\compLoop k t mt me (inner aY φ) (xs.drop j) acc L'=.ok ys L2:=fun {g8 L8 s8 eH us' n'} l8 J8 kf hd hn RM hz' RN =>
      ⟨xs.length - (i+1),by omega,i+1,eH,us',n',g8,L8,rfl,bQ,((l3.trans l5).trans l7).trans l8,JB (J8.weak wk.1 wk.2) hd hn (fun v z=>nomatch z),T.keep _ _ _ FV fun b hb o e=>(kf b hb o e).1,fun b hb=>(let ⟨o,e,_⟩:=T.obj _ _ FV b hb;(kf b hb o e).2),RM,hz',RN⟩
     have pk:∀{g8:G} {L8:aa} {s8:Vc},Inv X' ([(D,{ cls:=.type "list",data:=.seq us.toArray nn })]++fp.filterMap fun b=>(s5.heap.get? b).map fun o=>(b,o)) ψ1 g8 L8 s8->∀b∈fp,∀o,s5.heap.get? b=some o->s8.heap.get? b=some o/\g8.H b=none:=fun J8 b hb o e =>
      let z:=J8.pin (b,o) (Vh _ (jv hb e));⟨z.1,z.2.1⟩
     cases b' with
     | false =>
      obtain⟨d1,d2,_⟩:=J7.pin (D,_) (Va _ U4);exact again (.refl g7) (J7.iT fun p hp=>by simp at hp) (pk J7) d1 d2 (ra.le ((l5).trans l7)) hz eq
     | true =>
      obtain⟨y,L8,e8,eq⟩:=R.of eq;have ze:=hE' J7 e8
      rw [eP,ew,eA,ee] at ze;refine thn ze fun yv s8 ⟨g8,l8,J8,r8⟩=>?_
      obtain⟨d1,d2,_⟩:=J8.pin (D,_) (Va _ U4);have lu:=Vr ra
      refine call_meets Y2 ⟨_,d1,rfl⟩ F.entry_list_append (F.args_list_append_2 _ _) (PySem.list_append D us.toArray nn yv (by rw [Ww,<- lu];exact hz)) ⟨d1,?_⟩;have q:=aa1 d1 (fun x=>x.push yv)
      have ot:∀b,b≠D->(s8.heap.update D (Wx fun x=>x.push yv)).get? b=s8.heap.get? b:=fun b hb=>VL s8.heap _ (WA hb)
      have J9:Inv X' [] ψ1 g8 L8 { s8 with heap:=s8.heap.update D (Wx fun x=>x.push yv) }:=(J8.iT (pins':=[]) fun p hp=>by simp at hp).turned (t':=s8.toks) (ch:=[D]) (fun b o hb e=>(ot b (by simpa using hb)).trans e) fun b hb=>by
       have z:b=D:=by simpa using hb
       subst z;exact uh U4 d2
      refine again (us':=us++[yv]) l8 J9 (fun b hb o e=>?_) (by simpa using q) d2 (Paired.snoc (ra.le ((l5.trans l7).trans l8)) r8) (by simp;show acc.length<lim;exact RK) eq;have z:=pk J8 b hb o e
      exact⟨(ot b fun e=>JA (e ▸ hb)).trans z.1,z.2⟩
   ·cases eq
  ·have ei:i=xs.length:=by omega
   rw [aaj (by omega)] at eq;unfold compLoop at eq;split at eq
   ·rename_i hk
    cases eq;have z:=T.done eP ew (E:=F0) l3 J (Ng P9) eD hk ei
    rw [eA] at z;refine wpAny_mono z (fun r s4 ⟨hr,J4⟩=>?_) fun _ _ z=>z
    subst hr;obtain⟨d1,d2,_⟩:=J4.pin (D,_) U4;exact leave l3 (J4.iT fun p hp=>by simp at hp) ra hz d1 d2
   ·cases eq
 exact codeAny_compStart_list (loop _ rfl) (T.self _ 0 _ _ _ P8 (loop _ rfl))
theorem rN {fz:Bool} {D:VJ} {ys:List T} {us:List U8} {n:Nat} {w:T} {L':aa} (I:Inv X pins φ g L s) (r:cG g ys us) (hz:ys.length<=Vz) (hd:s.heap.get? D=some { cls:=.type "list",data:=.seq us.toArray n }) (f:gx X pins g.H D) (h:mk fz (.lst ys) L=.ok w L'):∃g',Le g g'/\Inv X pins φ g' L' s/\RT g' none w (.ref D)/\∀b,b≠D->g'.H b=g.H b:=by
 unfold mk at h;split at h
 ·cases h
  exact⟨_,Le.lay f.1,I.Jy f hd,r.lst (o:=default) (Le.lay f.1) (.inl rfl) (.inl ar) hz,fun b hb=>aA hb⟩
 ·cases h
  refine⟨_,Le.new f.1,I.FW f hd (r.lst (o:=default) (Le.new f.1) (.inr rfl) (.inl ar) hz),?_,fun b hb=>aA hb⟩;have:=I.rel.len
  exact .ref (p:=(D,D)) (by show at_ ((_,_)::g.α) _=_;rw [<- this];exact fk)
theorem vU {fz:Bool} {tg iter elt:Expr} {ifs:List Expr} {scope:Scope} {N:List Str} {aY:List (Option Nat)} {mi:SI} {t:Tg} {mt:ST} {me:SE} {pos:Pos}
  (ok:mZ X scope N aY) (Eg:∀i∈t.slots,aY[i]?=some none) (hi:PI X tg iter mi) (hg:∀cl C s₀ H₀ ex,PG (de X scope cl N C s₀ H₀ ex) tg t)
  (ht:∀cl C s₀ H₀ ex,FX (de X scope cl N C s₀ H₀ ex) ifs mt) (he:∀cl C s₀ H₀ ex,PE (de X scope cl N C s₀ H₀ ex) elt me) (hs:jw iter=true):PE X (.ListComp elt [⟨tg,iter,ifs,0⟩] scope pos) (comp fz mi aY t mt me):=fun I h=>by
 obtain⟨⟨xs,k⟩,L1,e1,h⟩:=R.of h;obtain⟨ys,L2,e2,h⟩:=R.of h;rw [eval_ListComp];refine oU (use:=none) ok Eg hi hg ht he hs I e1 e2 fun D C g' s' m us n l J r hz hd fD hne hn fC=>⟨m,hn,fun h' sb=>?_⟩
 have J':=J.turned (t':=s'.toks) (h':=h') (ch:=[C]) (fun b o hb e=>(sb.2 b (by simpa using hb)).trans e) fun b hb=>by
  have z:b=C:=by simpa using hb
  subst z;exact fC
 obtain⟨g2,l2,J2,r2,_⟩:=rN J' r hz ((sb.2 D hne).trans hd) fD h;exact⟨g2,l.trans l2,J2,r2⟩
theorem Cg {i:Nat} {y:Str} {py Gb:Pos} {fz:Bool} {tg iter elt:Expr} {ifs:List Expr} {scope:Scope} {N:List Str} {aY:List (Option Nat)} {mi:SI} {t:Tg} {mt:ST} {me:SE} {pos:Pos} (S:ud X i y)
  (ok:mZ X scope N aY) (Eg:∀i∈t.slots,aY[i]?=some none) (hi:PI X tg iter mi) (hg:∀cl C s₀ H₀ ex,PG (de X scope cl N C s₀ H₀ ex) tg t)
  (ht:∀cl C s₀ H₀ ex,FX (de X scope cl N C s₀ H₀ ex) ifs mt) (he:∀cl C s₀ H₀ ex,PE (de X scope cl N C s₀ H₀ ex) elt me) (hs:jw iter=true) :
  PS X (.Assign [.Name y py] (.ListComp elt [⟨tg,iter,ifs,0⟩] scope pos) Gb) (asg (.one i) (comp fz mi aY t mt me)):=fun {pins φ g L s} I h=>by
 cases hb:(X.env.blockKind == .function && X.env.kindOf y == some .local && py.line == pos.line && !(scope.names.any fun(n,k)=>n == y && (k == .local || k == .cell))) with
 | false =>
  have hsw:swapsWith (.ListComp elt [⟨tg,iter,ifs,0⟩] scope pos) (some (.Name y py)) Gb.line X.env=pure false:=by
   show(pure _:Sem Bool)=pure false;rw [<- hb];rfl
  exact ue (vU ok Eg hi hg ht he hs) (mD S) hsw rfl rfl I h
 | true =>
  have hsw:swapsWith (.ListComp elt [⟨tg,iter,ifs,0⟩] scope pos) (some (.Name y py)) Gb.line X.env=pure true:=by
   show(pure _:Sem Bool)=pure true;rw [<- hb];rfl
  obtain⟨v,L3,e0,e2,h⟩:=iw h;rw [show asg (.one i) (comp fz mi aY t mt me) φ L=.nx (φ.set i (some v)) L3 from e2];obtain⟨⟨xs,k⟩,L1,e1,e0⟩:=R.of e0;obtain⟨ys,L2,e3,e0⟩:=R.of e0;rw [exec_Assign_Name_used _ _ _ _ hsw];refine U0 (wpAny_standAt (U0 ?_));show Vq _ X.A (do let _ <- comprehension (.ListComp elt [⟨tg,iter,ifs,0⟩] scope pos) scope X.env _ (newList []) false (eval iter X.env) (some (assign (.Name y py) X.env))) _ _ s
  refine U0 (wpAny_mono (oU (QQ:=fun _ s'=>SP X pins g (.nx (φ.set i (some v)) L3) .next s') (use:=some (assign (.Name y py) X.env)) ok Eg hi hg ht he hs I e1 e3 fun D C g' s' m us n l J r hz hd fD hne hn fC=>?_) (fun _ s' hq=>U2 (U2 hq)) fun _ _ e=>e);obtain⟨g2,l2,J2,r2,kp⟩:=rN J r hz hd fD e0;have RO:gx X pins g2.H C:=⟨(kp C (WA hne)).trans fC.1,fC.2⟩
  refine wpAny_assign_Name (mX J2 S r2 fun s2 I2 Eh=>?_);obtain⟨a,sb,ha⟩:=Eh;have Nh:C≠a:=by
   rcases ha with rfl|e
   ·exact fC.2.1
   ·exact fun z=>fC.2.2.2.1 y a e z.symm
  exact⟨m,hn.sameBut sb Nh,fun UD RP=>⟨g2,l.trans l2,I2.turned (t':=s2.toks) (ch:=[C]) (fun b o hb e=>(RP.2 b (by simpa using hb)).trans e) fun b hb=>by
   have z:b=C:=by simpa using hb
   subst z;exact RO⟩⟩
end
theorem gN {n:Nat}:∀{xs:List T},cb n xs=true↔∀(i:Nat) x,xs[i]?=some x->lt n x=true
 | []=>by simp [cb]
 | x::xs=>by
  rw [cb,Ve,gN];constructor
  ·rintro⟨h1,h2⟩ i y e
   cases i with
   | zero=>simp at e;subst e;exact h1
   | succ i=>exact h2 i y (by simpa using e)
  ·exact fun h=>⟨h 0 x rfl,fun i y e=>h (i+1) y (by simpa using e)⟩
theorem mF {n:Nat}:∀{xs:List (T × T)},BO n xs=true↔∀(i:Nat) x,xs[i]?=some x->lt n x.1=true/\lt n x.2=true
 | []=>by simp [BO]
 | (a,b)::xs=>by
  rw [BO,Ve,Ve,mF];constructor
  ·rintro⟨h1,h2⟩ i y e
   cases i with
   | zero=>simp at e;subst e;exact h1
   | succ i=>exact h2 i y (by simpa using e)
  ·exact fun h=>⟨h 0 _ rfl,fun i y e=>h (i+1) y (by simpa using e)⟩
theorem yI {n:Nat}:∀{xs:List (Str × T)},ow n xs=true->∀f x,xs.lookup f=some x->lt n x=true
 | [],_,f,x,e=>by simp at e
 | (a,b)::xs,h,f,x,e=>by
  rw [ow,Ve] at h;rw [Vy] at e;split at e
  ·cases e;exact h.1
  ·exact yI h.2 f x e
theorem RT.re {g' da:G} {n0:Nat} (hr:∀n p,n<n0->at_ g'.α n=some p->at_ da.α n=some p) (oE:∀a o,g'.kn true a o->da.kn true a o) (hm:da.cls=g'.cls) (hw:da.w=g'.w) {p:Option (VJ × VJ)} {t:T} {v:U8} (h:RT g' p t v) :
  ∀{q:Option (VJ × VJ)},lt n0 t=true->(p=none->q=none)->(∀a d b o,ua p a d->(b=a\/b=d)->g'.kn p.isNone b o->ua q a d/\da.kn q.isNone b o)->RT da q t v:=by
 have k0:∀a d b o,ua none a d->(b=a\/b=d)->g'.kn (none:Option (VJ × VJ)).isNone b o->ua none a d/\da.kn (none:Option (VJ × VJ)).isNone b o:=fun a d b o _ _ k=>⟨.inl rfl,oE b o k⟩
 induction h with
 | b7=>intro q _ hp _;rw [hp rfl];exact .b7
 | bl b=>intro q _ hp _;rw [hp rfl];exact .bl b
 | int i t=>intro q _ hp _;rw [hp rfl];exact .int i t
 | str s t h=>intro q _ hp _;rw [hp rfl];exact .str s t h
 | ty n=>intro q _ hp _;rw [hp rfl];exact .ty n
 | own h=>intro q _ hp _;rw [hp rfl];exact .own (by rw [hm];exact h)
 | ref h=>intro q hl hp _;rw [hp rfl];exact .ref (hr _ _ (by rw [lt] at hl;exact of_decide_eq_true hl) h)
 | tup hk hc hd hz hl hi ih =>
  intro q bQ hp hk';rw [hp rfl];rw [lt] at bQ;exact .tup (oE _ _ hk) hc hd hz hl fun i x v e1 e2=>ih i x v e1 e2 (gN.mp bQ i x e1) (fun _=>rfl) k0
 | lst ht hk hz hl hi ih =>
  intro q bQ hp hk';have z:=hk' _ _ _ _ ht (.inl rfl) hk
  rw [lt] at bQ;exact .lst z.1 z.2 hz hl fun i x v e1 e2=>ih i x v e1 e2 (gN.mp bQ i x e1) (fun _=>rfl) k0
 | aU ht hk hx hd hz hl hn hs hh h1 h2 i1 i2 =>
  intro q bQ hp hk';have z:=hk' _ _ _ _ ht (.inl rfl) hk
  rw [lt] at bQ;exact .aU z.1 z.2 hx hd hz hl hn hs (by rw [hw];exact hh) (fun i x v e1 e2=>i1 i x v e1 e2 (mF.mp bQ i x e1).1 (fun _=>rfl) k0) fun i x v e1 e2=>i2 i x v e1 e2 (mF.mp bQ i x e1).2 (fun _=>rfl) k0
 | obj ht hne hc hk rC hd hs hu hz hn hl hi ih =>
  intro q bQ hp hk';have z:=hk' _ _ _ _ ht (.inl rfl) hk
  have z2:=hk' _ _ _ _ ht (.inr rfl) rC;rw [lt] at bQ;exact .obj z.1 hne (by rw [hm];exact hc) z.2 z2.2 hd hs hu hz hn hl fun f x v e1 e2=>ih f x v e1 e2 (yI bQ f x e1) (fun _=>rfl) k0
theorem vV {n:Nat}:∀{xs:List (Str × T)},(∀p∈xs,lt n p.2=true)->ow n xs=true
 | [],_=>rfl
 | (a,b)::xs,h=>by
  rw [ow,h _ U4,vV fun p hp=>h p (U5 _ hp)];rfl
theorem iU {α β:Type} {f:α->Option β}:∀{xs:List α} {ys:List β},xs.mapM f=some ys->xs.length=ys.length/\∀(i:Nat) y,ys[i]?=some y->∃x,xs[i]?=some x/\f x=some y
 | [],ys,h=>by simp at h;subst h;exact⟨rfl,fun i y e=>by simp at e⟩
 | x::xs,ys,h=>by
  rw [W9] at h;cases e1:f x with
  | none=>rw [e1] at h;cases h
  | some y =>
   cases e2:xs.mapM f with
   | none=>rw [e1,e2] at h;cases h
   | some zs =>
    rw [e1,e2] at h;cases h;obtain⟨l,a⟩:=iU e2;refine⟨by simp [l],fun i z e=>?_⟩;cases i with
    | zero=>simp at e;subst e;exact⟨x,rfl,e1⟩
    | succ i=>exact a i z (by simpa using e)
theorem gO {g' da:G} {n0:Nat} {L':aa} (hr:∀n p,n<n0->at_ g'.α n=some p->at_ da.α n=some p) (oE:∀a o,g'.kn true a o->da.kn true a o) (hc:∀n c,n0<=n->at_ L' n=some c->(∀k,cf n0 L' k c=none)\/∃p,at_ g'.α n=some p/\RT g' (some p) c (.ref p.1)/\∀b o,(b=p.1\/b=p.2)->g'.kn false b o->da.kn true b o) (hm:da.cls=g'.cls) (hw:da.w=g'.w) :
  ∀(k:Nat) {p:Option (VJ × VJ)} {t t':T} {v:U8},RT g' p t v->(∀q,p=some q->∀b o,(b=q.1\/b=q.2)->g'.kn false b o->da.kn true b o)->cf n0 L' k t=some t'->RT da none t' v
 | 0,_,_,_,_,_,_,e=>by cases e
 | k+1,p,t,t',v,h,hp,e=>by
  have kn:∀a d b o,ua p a d->(b=a\/b=d)->g'.kn p.isNone b o->ua none a d/\da.kn (none:Option (VJ × VJ)).isNone b o:=fun a d b o ht hb hk=>by
   refine⟨.inl rfl,?_⟩;rcases ht with rfl|rfl
   ·exact oE b o hk
   ·exact hp _ rfl b o hb hk
  unfold cf at e;split at e
  ·rename_i hl
   cases e;exact h.re hr oE hm hw hl (fun _=>rfl) kn
  ·rename_i bQ
   have MB:∀q:VJ × VJ,(none:Option (VJ × VJ))=some q->∀b o,(b=q.1\/b=q.2)->g'.kn false b o->da.kn true b o:=fun q z=>by cases z
   cases h with
   | b7=>cases e
   | bl b=>cases e
   | int i t=>cases e
   | str s t h=>cases e
   | ty n=>cases e
   | own h=>cases e
   | ref h =>
    rename_i n p;have hn:n0<=n:=Nat.le_of_not_lt fun z=>bQ (by rw [lt];exact decide_eq_true z)
    cases ec:at_ L' n with
    | none=>simp only [ec] at e;cases e
    | some c =>
     simp only [ec] at e;rcases hc n c hn ec with z|⟨q,h1,h2,h3⟩
     ·rw [z] at e;cases e
     ·rw [h] at h1;cases h1
      exact gO hr oE hc hm hw k h2 (fun q z=>by cases z;exact h3) e
   | tup hk IS hd hz hl hi =>
    obtain⟨ys,e1,rfl⟩:=Vj.mp e;obtain⟨len,at'⟩:=iU e1;exact .tup (oE _ _ hk) IS hd (by rw [<- len];exact hz) (by rw [<- len];exact hl) fun i y v q1 q2=>let ⟨x,x1,x2⟩:=at' i y q1;gO hr oE hc hm hw k (hi i x v x1 q2) MB x2
   | lst ht hk hz hl hi =>
    obtain⟨ys,e1,rfl⟩:=Vj.mp e;obtain⟨len,at'⟩:=iU e1;have z:=kn _ _ _ _ ht (.inl rfl) hk
    exact .lst z.1 z.2 (by rw [<- len];exact hz) (by rw [<- len];exact hl) fun i y v q1 q2=>let ⟨x,x1,x2⟩:=at' i y q1;gO hr oE hc hm hw k (hi i x v x1 q2) MB x2
   | aU ht hk hx hd hz hl hn hs hh h1 h2 =>
    rename_i a o es nn ks;obtain⟨ys,e1,rfl⟩:=Vj.mp e;obtain⟨len,at'⟩:=iU e1;have z:=kn _ _ _ _ ht (.inl rfl) hk
    have at2:∀(i:Nat) y,ys[i]?=some y->∃x,ks[i]?=some x/\lt n0 x.1=true/\x.1=y.1/\cf n0 L' k x.2=some y.2:=fun i y q=>by
     obtain⟨x,x1,x2⟩:=at' i y q;split at x2
     ·rename_i RQ
      obtain⟨z,z1,rfl⟩:=Vj.mp x2;exact⟨x,x1,RQ,rfl,z1⟩
     ·cases x2
    refine .aU z.1 z.2 hx hd (by rw [<- len];exact hz) (by rw [<- len];exact hl) ?_ hs (fun i y v q1 q2=>?_) (fun i y v q1 q2=>?_) fun i y v q1 q2=>?_
    ·have:ys.map (·.1)=ks.map (·.1):=ZH fun i=>by
      rw [Vs,Vs];cases q:ys[i]? with
      | none=>rw [W2 (by rw [len];exact Zx.mp q)]
      | some y=>obtain⟨x,x1,_,x3,_⟩:=at2 i y q;rw [x1];show some y.1=some x.1;rw [x3]
     rw [this];exact hn
    ·obtain⟨x,x1,_,x3,_⟩:=at2 i y q1;rw [hw,<- x3];exact hh i x v x1 q2
    ·obtain⟨x,x1,x2,x3,_⟩:=at2 i y q1
     rw [<- x3];exact(h1 i x v x1 q2).re hr oE hm hw x2 (fun _=>rfl) fun a d b o _ _ k=>⟨.inl rfl,oE b o k⟩
    ·obtain⟨x,x1,_,_,x4⟩:=at2 i y q1;exact gO hr oE hc hm hw k (h2 i x v x1 q2) MB x4
   | obj ht hne IS hk rC hd hs hu hz hn hl hi =>
    rename_i a d C od es nn cn fs;obtain⟨ys,e1,rfl⟩:=Vj.mp e;obtain⟨len,at'⟩:=iU e1;have z:=kn _ _ _ _ ht (.inl rfl) hk
    have z2:=kn _ _ _ _ ht (.inr rfl) rC;have lk:∀(fs ys:List (Str × T)),fs.length=ys.length->(∀(i:Nat) y,ys[i]?=some y->∃x,fs[i]?=some x/\x.1=y.1/\cf n0 L' k x.2=some y.2)->∀f,(∀y,ys.lookup f=some y->∃x,fs.lookup f=some x/\cf n0 L' k x=some y)/\(ys.lookup f).isSome=(fs.lookup f).isSome:=fun fs=>by
     induction fs with
     | nil=>intro ys hl _ f;cases ys with
      | nil=>exact⟨fun y e=>by simp at e,rfl⟩
      | cons _ _=>simp at hl
     | cons x fs ih =>
      intro ys hl h f;cases ys with
      | nil=>simp at hl
      | cons y ys =>
       obtain⟨x',q1,q2,q3⟩:=h 0 y rfl;simp at q1;subst q1;have r:=ih ys (by simpa using hl) (fun i y e=>by simpa using h (i+1) y (by simpa using e)) f
       obtain⟨xa,xb⟩:=x;obtain⟨ya,yb⟩:=y;have q2:xa=ya:=q2
       subst q2;rw [Vy,Vy];cases f == xa with
       | true=>exact⟨fun y e=>⟨xb,rfl,by cases e;exact q3⟩,rfl⟩
       | false=>exact r
    have at2:=lk _ ys len fun i y q=>by
     obtain⟨x,x1,x2⟩:=at' i y q;obtain⟨z,z1,rfl⟩:=Vj.mp x2;exact⟨x,x1,rfl,z1⟩
    have names:ys.map (·.1)=fs.map (·.1):=ZH fun i=>by
     rw [Vs,Vs];cases q:ys[i]? with
     | none=>rw [W2 (by rw [len];exact Zx.mp q)]
     | some y =>
      obtain⟨x,x1,x2⟩:=at' i y q;obtain⟨z,z1,rfl⟩:=Vj.mp x2;rw [x1];rfl
    exact .obj z.1 hne (by rw [hm];exact IS) z.2 z2.2 hd hs hu (by rw [<- len];exact hz) (by rw [names];exact hn) (fun f=>by rw [(at2 f).2];exact hl f) fun f y v q1 q2=>let ⟨x,x1,x2⟩:=(at2 f).1 y q1;gO hr oE hc hm hw k (hi f x v x1 q2) MB x2
theorem Gd {g' da:G} {n0:Nat} {L':aa} (hr:∀n p,n<n0->at_ g'.α n=some p->at_ da.α n=some p) (oE:∀a o,g'.kn true a o->da.kn true a o) (ug:∀n p b o,n0<=n->at_ g'.α n=some p->(b=p.1\/b=p.2)->g'.kn false b o->da.kn true b o) (hm:da.cls=g'.cls) (hw:da.w=g'.w) (r:Rel g' L') (k:Nat) {t t':T} {v:U8} (h:RT g' none t v) (e:cf n0 L' k t=some t'):RT da none t' v :=
 gO hr oE (fun n c hn q=>let ⟨p,h1,h2⟩:=r.cells n c q;.inr ⟨p,h1,h2,fun b o hb=>ug n p b o hn h1 hb⟩) hm hw k h (fun q z=>by cases z) e
theorem jS {α:Type} {n0 n:Nat}:∀{L:List α},n<n0->n0<=L.length->at_ (L.drop (L.length - n0)) n=at_ L n
 | [],h1,h2=>by simp at h2;omega
 | c::L,h1,h2=>by
  by_cases e:n0=(c::L).length
  ·rw [<- e,aaY,aaG]
  ·have h3:n0<=L.length:=by simp at h2 e;omega
   have e2:(c::L).length - n0=(L.length - n0)+1:=by simp;omega
   rw [e2,List.drop_succ_cons,jS h1 h3];have z:¬ n=L.length:=by omega
   conv=>rhs;unfold at_;rw [if_neg z]
theorem yJ {α:Type}:∀{fs:List (Str × α)} {p:Str × α},(fs.map (·.1)).Nodup->p∈fs->fs.lookup p.1=some p.2
 | (a,b)::fs,p,hn,hp=>by
  rw [Vy];rw [Vg,VW] at hn;rcases Vn.mp hp with rfl|hp
  ·simp
  ·have:(p.1 == a)=false:=by
    cases e:p.1 == a with
    | false=>rfl
    | true=>exact absurd (U6.mpr ⟨p,hp,by simpa using e⟩) hn.1
   rw [this];exact yJ hn.2 hp
theorem RT.lt {g:G} {p:Option (VJ × VJ)} {t:T} {v:U8} (h:RT g p t v):M.lt g.α.length t=true:=by
 induction h with
 | ref h=>rw [M.lt];exact decide_eq_true (fO h)
 | tup hk hc hd hz hl hi ih =>
  rw [M.lt,gN];intro i x e;have:=(Vl.mp e).1
  exact ih i x _ e (by rw [Vf (by omega)])
 | lst ht hk hz hl hi ih =>
  rw [M.lt,gN];intro i x e;have:=(Vl.mp e).1
  exact ih i x _ e (by rw [Vf (by omega)])
 | aU ht hk hx hd hz hl hn hs hh h1 h2 i1 i2 =>
  rw [M.lt,mF];intro i x e;have:=(Vl.mp e).1
  exact⟨i1 i x _ e (by rw [Vf (by omega)]),i2 i x _ e (by rw [Vf (by omega)])⟩
 | obj ht hne hc hk rC hd hs hu hz hn hl hi ih =>
  rw [M.lt];refine vV fun q hq=>?_
  have e:=yJ hn hq;obtain⟨v,ev⟩:=V9.mp ((hl q.1).symm.trans (by rw [e];rfl));exact ih q.1 q.2 v e ev
 | _=>rfl
theorem Ge {g g':G} {L L' Lo:aa} {t t':T} {u:U8} (l:Le g g') (r0:Rel g L) (r:Rel g' L') (h:RT g' none t u) (e:fin L t L'=.ok t' Lo) :
  ∃da,Le g da/\Rel da Lo/\RT da none t' u/\(∀a b o,da.H a=some (b,o)->∃b',g'.H a=some (b',o))/\(∀a,g'.H a=none->da.H a=none)/\∀a o,g'.H a=some (true,o)->da.H a=some (true,o):=by
 classical
 unfold fin at e;split at e
 ·rename_i ho
  have n0:L.length<=L'.length:=by
   cases hn:L.length with
   | zero=>exact VK _
   | succ m =>
    obtain⟨p,hp⟩:=p8 (L:=g.α) (n:=m) (by rw [r0.len];omega);have:=fO (l.α _ _ hp)
    rw [r.len] at this;omega
  cases ef:cf L.length L' 9 t with
  | none=>rw [ef] at e;cases e
  | some t1 =>
   rw [ef] at e;cases e
   let nw:VJ->Prop:=fun a=>∃n p,L.length<=n/\at_ g'.α n=some p/\(a=p.1\/a=p.2)
   let da:G:={ g' with H:=fun a=>if nw a then (g'.H a).map fun q=>(true,q.2) else g'.H a,α:=g'.α.drop (g'.α.length - L.length) }
   have hH:∀a,da.H a=if nw a then (g'.H a).map fun q=>(true,q.2) else g'.H a:=fun _=>rfl
   have hα:∀n,n<L.length->at_ da.α n=at_ g'.α n:=fun n hn=>jS hn (by rw [r.len];exact n0)
   have cf:∀a o,g'.H a=some (true,o)->da.H a=some (true,o):=fun a o q=>by
    rw [hH];split
    ·rw [q];rfl
    ·exact q
   have oE:∀a o,g'.kn true a o->da.kn true a o:=fun a o q=>q.elim (fun q=>.inl (cf a o q)) .inr
   have ug:∀n p b o,L.length<=n->at_ g'.α n=some p->(b=p.1\/b=p.2)->g'.kn false b o->da.kn true b o:=fun n p b o hn hp hb q=>by
    rcases q with q|⟨z,_⟩
    ·refine .inl ?_
     rw [hH,if_pos ⟨n,p,hn,hp,hb⟩,q];rfl
    ·cases z
   have hr:∀n p,n<L.length->at_ g'.α n=some p->at_ da.α n=some p:=fun n p hn hp=>(hα n hn).trans hp
   have yK:∀n p,n<L.length->at_ g'.α n=some p->¬ nw p.1/\¬ nw p.2:=fun n p hn hp=>by
    refine⟨?_,?_⟩ <;>
    ·rintro⟨m,q,hm,hq,hb⟩
     have ap:=r.apart n m p q hp hq (by omega);rcases hb with hb|hb
     ·first|exact ap.1 hb|exact ap.2.2.1 hb
     ·first|exact ap.2.1 hb|exact ap.2.2.2 hb
   refine⟨da,⟨fun a o q=>cf a o (l.f a o q),fun n p q=>hr n p (by rw [<- r0.len];exact fO q) (l.α n p q),l.B,l.m,l.w⟩,⟨?_,fun n c q=>?_,fun n m p q h1 h2=>?_,fun n p q=>?_⟩,Gd hr oE ug rfl rfl r 9 h ef,fun a b o q=>?_,fun a q=>?_,cf⟩
   ·show(g'.α.drop _).length=_
    rw [VM,VM,r.len]
   ·have hn:n<L.length:=by have:=fO q;rw [VM] at this;omega
    have q':at_ L' n=some c:=(jS hn n0).symm.trans q
    obtain⟨p,h1,h2⟩:=r.cells n c q';have bQ:M.lt L.length c=true:=by
     rcases ho n c q with z|z
     ·obtain⟨p0,_,z2⟩:=r0.cells n c z
      rw [<- r0.len];exact z2.lt
     ·exact z
    refine⟨p,hr n p hn h1,h2.re hr oE rfl rfl bQ (fun z=>by cases z) fun a d b o ht hb hk=>⟨ht,?_⟩⟩;have no:=yK n p hn h1
    rcases ht with z|z
    ·cases z
    ·cases z
     rcases hk with hk|⟨z,_⟩
     ·refine .inl ?_
      rw [hH,if_neg (by rcases hb with hb|hb <;> rw [hb];exact no.1;exact no.2)];exact hk
     ·cases z
   ·have hn:n<L.length:=by have:=fO h1;rw [VM,r.len] at this;omega
    have hm:m<L.length:=by have:=fO h2;rw [VM,r.len] at this;omega
    exact r.apart n m p q ((hα n hn).symm.trans h1) ((hα m hm).symm.trans h2)
   ·have hn:n<L.length:=by have:=fO q;rw [VM,r.len] at this;omega
    have q':=(hα n hn).symm.trans q;obtain⟨⟨o1,h1⟩,o2,h2⟩:=r.live n p q';have no:=yK n p hn q'
    exact⟨⟨o1,by rw [hH,if_neg no.1];exact h1⟩,o2,by rw [hH,if_neg no.2];exact h2⟩
   ·rw [hH] at q
    split at q
    ·obtain⟨z,z1,z2⟩:=Vj.mp q
     cases z2;exact⟨z.1,z1⟩
    ·exact⟨b,q⟩
   ·rw [hH,q];split <;> rfl
 ·cases e
structure fG (k:Nat) (A:VZ):Prop where
 hd:A.handled=none
 dp:A.depth+3 * k+5<recursionLimit
 un:A.units+16 * k+200<cLine
theorem fG.mono {j k:Nat} {A:VZ} (r:fG k A) (h:j<=k):fG j A:=⟨r.hd,by have:=r.dp;omega,by have:=r.un;omega⟩
theorem fG.deeper {k:Nat} {A:VZ} (r:fG (k+1) A) (env:Env):fG k (A.deeper env) :=
 ⟨r.hd,by have:=r.dp;show A.depth+1+3 * k+5<_;omega,by have:=r.un;show A.units+3+16 * k+200<_;omega⟩
theorem um {A:VZ} {C:VJ} {us:List U8} {kw:List (Str × U8)}:(A.under (.builtin "type.__call__" ⟨.ref C::us,kw⟩)).depth=A.depth+1:=by
 first|rfl|simp [Around.under,Code.weight,Code.isCreation,Code.isGuard,Code.isCaller,Code.frames,Code.isFrame,guardIds]
theorem uo {A:VZ} {C:VJ} {us:List U8} {kw:List (Str × U8)}:(A.under (.builtin "type.__call__" ⟨.ref C::us,kw⟩)).units=A.units+1:=by
 first|rfl|simp [Around.under,Code.cUnits,Code.frames,Code.isFrame]
theorem fG.make {k:Nat} {A:VZ} (r:fG (k+1) A) (C:VJ) (us:List U8) (kw:List (Str × U8)):fG k (A.under (.builtin "type.__call__" ⟨.ref C::us,kw⟩)) :=
 ⟨r.hd,by have:=r.dp;rw [um];omega,by have:=r.un;rw [uo];omega⟩
theorem fG.depth {k:Nat} {A:VZ} (r:fG k A):A.depth<recursionLimit:=by have:=r.dp;omega
theorem fG.units {k:Nat} {A:VZ} (r:fG k A):A.units+64<cLine:=by have:=r.un;omega
structure ur (h:Heap) (x dx C:VJ) (mA:Str->Option U8):Prop where
 obj:h.get? x=some (V8 C dx)
 ns:h.Ns1 dx mA
 ne:dx≠x
theorem xo {h:Heap} {dx:VJ} {mA:Str->Option U8} (n:h.Ns1 dx mA):∃od,h.get? dx=some od/\∀name,Zy name od=some (mA name):=by
 obtain⟨o,es,ep,ho,hd,hk,_,hm⟩:=n;refine⟨o,ho,fun name=>?_⟩;have e:=hm name
 unfold nsFind findBy at e;rw [<- Array.find?_toList] at e;unfold Zy;rw [hd];dsimp only;split
 ·rename_i y q
  rw [q] at e;exact congrArg some e
 ·rename_i q
  rw [q] at e;have a:es.toList.any (·.refKey)=false:=by
   rw [YK];intro y hy;obtain⟨z,t,hkey⟩:=hk y (Ye.mp hy);simp [DictEntry.refKey,hkey]
  have a':¬ es.toList.any (·.refKey)=true:=by rw [a];exact Xm
  rw [if_neg a'];exact congrArg some e
theorem ur.look {h:Heap} {x dx C:VJ} {mA:Str->Option U8} (I:ur h x dx C mA):∃od,PySem.W.InstAt h x (V8 C dx) C (some od)/\∀name,Zy name od=some (mA name) :=
 let ⟨od,ho,hl⟩:=xo I.ns
 ⟨od,⟨I.obj,rfl,rfl,ho⟩,hl⟩
section
variable {prog:Wh} {w:Xg} {A:VZ} {E:U8->Vc->Prop} {s:Vc} {K:VD} {x dx C f:VJ} {mA:Str->Option U8} {name:Str} {v:U8}
theorem get_map {expr:Bool} {Q:U8->Vc->Prop} (X:K.In s.heap) (I:ur s.heap x dx C mA) (hg:Yn K C name=true) (hh:YL K C=true)
  (ha:Wc K (.ref C) name=some none) (hv:mA name=some v) (hv':aa2 v=true) (h:Q v { s with toks:=s.toks+1 }) :
  Vq (model prog w) A (getAttr (.ref x) name expr) Q E s:=by
 obtain⟨od,J,hl⟩:=I.look;exact PySem.W.get_value X J (Za hg).1 (PySem.W.findObj_own hh ha rfl (by rw [hl,hv])) hv' h
theorem yL {pl:Sem Bool} {Q:U8 × List U8->Vc->Prop} (X:K.In s.heap) (I:ur s.heap x dx C mA) (hg:Yn K C name=true)
  (hf:Wc K (.ref C) name=some (some (.ref f))) (ht:Yu K (.ref f)=true) (hv:mA name=none) (h:Q (.ref f,[.ref x]) s) :
  Vq (model prog w) A (getMethod (.ref x) name pl) Q E s:=by
 obtain⟨od,J,hl⟩:=I.look;exact PySem.W.method_fn X J (Za hg).1 (Za hg).2 hf (beq_iff_eq.mp ht) (by show(Zy name od).map (·.isSome)=some false;rw [hl,hv];rfl) h
theorem Ci {ns:List Str} {Q:Unit->Vc->Prop} (X:K.In s.heap) (I:ur s.heap x dx C mA)
  (hs:Wc K (.ref C) "__setattr__"=some (some (.builtin "object.__setattr__"))) (hp:ZI K C=true) (ht:aav K C name=some none) (hh:YL K C=true)
  (hw:PySem.Within mA ns) (hsz:ns.length<=Vz)
  (h:∀h',ur h' x dx C (fun y=>if y=name then some v else mA y)->WL dx s.heap h'->Q () { s with heap:=h',toks:=s.toks+2 }) :
  Vq (model prog w) A (setAttr (.ref x) name v) Q E s:=by
 obtain⟨od,J,hl⟩:=I.look;refine PySem.W.set_plain X J hs (PySem.W.osa_open (s:={ s with toks:=s.toks+1 }) (r:=none) X J hp ht fun b=>?_);obtain⟨cd,hc,hd'⟩:=PySem.W.any_some hh;have hx:s.heap.get? x=some ⟨.ref C,some dx,.plain,#[]⟩:=I.obj
 refine U0 (U2 (U0 (U0 (wpAny_loadPart hx (U0 (PySem.W.Looks.here (s:={ s with toks:=s.toks+1 }) (PySem.W.looks_clsIn X hc) ?_))))));rw [hd'];refine U2 (a:=some dx) (U0 (U2 (U0 ?_)));refine wpAny_nsSet1 (s:={ s with toks:=s.toks+1 }) I.ns fun h' xn tU=>?_
 obtain⟨oD,UE,UG,RR,RS,RU⟩:=xn.count (PySem.Within.cons name v hw);refine U0 (wpAny_lookBehind RR (by rw [RS];exact pastItsLine_dict (Vt RU (by rw [Vb];omega))) ?_);exact U2 (h _ ⟨(tU.2 _ (WA I.ne)).trans I.obj,xn,I.ne⟩ tU)
theorem yM {R:Result->Vc->Prop} {vs:List U8} {kw:List (Str × U8)} (X:K.In s.heap) (hm:Zb K C=true)
  (hi:Wc K (.ref C) "__init__"=some (some (.ref f))) (hf:PySem.W.typeIn K (.ref f)=some (.type "function"))
  (h:codeAny (model prog w) (A.under (.builtin "type.__call__" ⟨.ref C::vs,kw⟩)) (.call (.ref f) ⟨.ref (s.heap.objs.size+1)::vs,kw⟩) (PySem.W.InitBack (s.heap.objs.size+1) R)
   { s with heap:=(s.heap.push Wb).push (V8 C s.heap.objs.size) }) :
  codeAny (model prog w) A (.call (.ref C) ⟨vs,kw⟩) R s:=by
 obtain⟨hh,g,d,t,os⟩:=s;exact PySem.W.make_core (PySem.W.makes_of X hm) (PySem.W.looks_findIn X hi) (fun self=>PySem.W.bind_fn X self hf) (.inl rfl) h
end
structure Cj (K:VD) (C:VJ):Prop where
 pg:Yn K C Str.empty=true
 hd:YL K C=true
 po:ZI K C=true
 sa:Wc K (.ref C) "__setattr__"=some (some (.builtin "object.__setattr__"))
theorem Cj.get {K:VD} {C:VJ} (c:Cj K C) (f:Str):Yn K C f=true:=c.pg
noncomputable def jx (K:VD) (C:VJ) (f:Str):Prop:=Wc K (.ref C) f=some none
theorem jx.JC {K:VD} {C:VJ} {f:Str} (n:jx K C f):aav K C f=some none:=by
 unfold aav;rw [show Wc K (.ref C) f=some none from n];rfl
structure Meth (K:VD) (C:VJ) (m:Str) (f:VJ):Prop where
 at_:Wc K (.ref C) m=some (some (.ref f))
 fn:Yu K (.ref f)=true
 kp:Wj K (.ref f)=true
section
variable {A:VZ} {E:U8->Vc->Prop}
theorem attr_of {prog:Wh} {w:Xg} {env:Env} {e:Expr} {f:Str} {pos:Pos} {s:Vc} {Q:U8->Vc->Prop} (hb:attributeBase e f env (eval e env)=eval e env)
  (h:Vq (model prog w) A (eval e env) (fun o s₁=>Vq (model prog w) A (getAttr o f true) Q E s₁) E s):Vq (model prog w) A (eval (.Attribute e f pos) env) Q E s :=
 Attribute_any_ h (by rw [arm_eval_Attribute,hb])
end
theorem oV {kindOf:Str->Option NameKind} {x:Str}:∀{binds:List (Str × U8)} {m:Str->Option U8},(∀v,(x,v)∉binds)->bindL kindOf binds m x=m x
 | [],_,_=>rfl
 | (n,v)::r,m,h=>by
  unfold bindL;rw [oV fun w hw=>h w (U5 _ hw)];split
  ·have:x≠n:=by rintro rfl;exact h v U4
   simp [this]
  ·rfl
theorem oW {kindOf:Str->Option NameKind} {x:Str}:∀{binds:List (Str × U8)} {m:Str->Option U8},(∀v,(x,v)∉binds)->bindC kindOf binds m x=m x
 | [],_,_=>rfl
 | (n,v)::r,m,h=>by
  unfold bindC;rw [oW fun w hw=>h w (U5 _ hw)];split
  ·rfl
  ·have:x≠n:=by rintro rfl;exact h v U4
   simp [this]
theorem oX {kindOf:Str->Option NameKind} {x:Str} {v:U8}:∀{P:List Str} {vs:List U8} {i:Nat} {m:Str->Option U8},P.Nodup->P[i]?=some x->vs[i]?=some v->kindOf x=some .local ->
  bindL kindOf (P.zip vs) m x=some v
 | [],_,_,_,_,h,_,_=>by simp at h
 | _::_,[],_,_,_,_,h,_=>by simp at h
 | p::P,w::vs,0,m,nd,h1,h2,hk=>by
  simp at h1 h2;subst h1;subst h2;show bindL kindOf ((p,w)::P.zip vs) m p=_
  unfold bindL;rw [oV fun v hv=>(VW.mp nd).1 (XX hv).1,if_pos hk];simp
 | p::P,w::vs,i+1,m,nd,h1,h2,hk=>by
  show bindL kindOf ((p,w)::P.zip vs) m x=_;unfold bindL;exact oX (i:=i) (VW.mp nd).2 (by simpa using h1) (by simpa using h2) hk
theorem oY {kindOf:Str->Option NameKind} {x:Str} {v:U8}:∀{P:List Str} {vs:List U8} {i:Nat} {m:Str->Option U8},P.Nodup->P[i]?=some x->vs[i]?=some v->kindOf x≠some .local ->
  bindC kindOf (P.zip vs) m x=some v
 | [],_,_,_,_,h,_,_=>by simp at h
 | _::_,[],_,_,_,_,h,_=>by simp at h
 | p::P,w::vs,0,m,nd,h1,h2,hk=>by
  simp at h1 h2;subst h1;subst h2;show bindC kindOf ((p,w)::P.zip vs) m p=_
  unfold bindC;rw [oW fun v hv=>(VW.mp nd).1 (XX hv).1,if_neg hk];simp
 | p::P,w::vs,i+1,m,nd,h1,h2,hk=>by
  show bindC kindOf ((p,w)::P.zip vs) m x=_;unfold bindC;exact oY (i:=i) (VW.mp nd).2 (by simpa using h1) (by simpa using h2) hk
theorem rO {sc:Scope} {n:Nat} {x:Str} (h:sc.names.lookup x=some .cell):∃c,(cellsFrom n sc.names []).lookup x=some c:=by
 have q:=YH sc.names n [] (.inl h);exact V9.mp q
section
variable {X:Cx} {pins:bf} {φ:Fr} {g g1:G} {L L':aa} {s s':Vc} {w t:T} {u:U8} {e o:Expr} {es:List Expr} {m ma mb:SE} {pos apos:Pos} {x f:Str} {A:VZ} {E:U8->Vc->Prop}
theorem RT.handed {t:T} {u:U8} (r:RT g none t u):aa2 u=true:=by cases r <;> rfl
structure ClsOk (K:VD) (fl:List Str) (C:VJ):Prop where
 c:Cj K C
 n:∀f∈fl,jx K C f
theorem Inv.obj {p:Option (VJ × VJ)} {cn:Str} {fs:List (Str × T)} (I:Inv X pins φ g L s) (r:RT g p (.obj cn fs) u):∃a d C es,u=.ref a/\X.cls cn=some C/\ur s.heap a d C (nsFind es)/\(∀f,(fs.lookup f).isSome=(nsFind es f).isSome)/\(∀f x v,fs.lookup f=some x->nsFind es f=some v->RT g none x v)/\fs.length<=1000/\(fs.map (·.1)).Nodup/\ua p a d/\d≠a /\
  g.kn p.isNone a (V8 C d)/\∃od,g.kn p.isNone d od:=by
 cases r with
 | obj ht hne hc hk rC hd hs hu hz hn hl hi=>exact⟨_,_,_,_,rfl,by rw [<- I.gm];exact hc,⟨I.kn hk,⟨_,_,_,I.kn rC,hd,hs,hu,fun _=>rfl⟩,hne⟩,hl,hi,hz,hn,ht,hne,hk,_,rC⟩
noncomputable def okBase:Expr->Bool
 | .Call (.Name _ _) [] [] _=>false
 | _=>true
theorem base_ok {env:Env} {w:Sem U8} (h:okBase o=true):attributeBase o x env w=w:=by
 unfold attributeBase;split
 ·cases h
 ·rfl
theorem pe_fld {fl:List Str} (hC:∀c C,X.cls c=some C->ClsOk X.K fl C) (hf:f∈fl) (he:PE X o m) (hb:okBase o=true):PE X (.Attribute o f pos) (b1 m (fld f)):=fun I h=>by
 obtain⟨t,L1,e1,h⟩:=R.of h;refine attr_of (base_ok hb) (thn (he I e1) fun u s1 ⟨g1,l1,I1,r1⟩=>?_);obtain⟨p,r⟩:=I1.view r1;unfold fld at h;cases ev:vw L1 t with
 | obj c fs =>
  rw [ev] at h r;obtain⟨a,d,C,es,rfl,hc,O,hl,hi,_⟩:=I1.obj r;have h:lift (fs.lookup f) L1=.ok _ _:=h
  cases el:fs.lookup f with
  | none=>rw [el] at h;cases h
  | some x =>
   rw [el] at h;cases h;obtain⟨v,ev⟩:=V9.mp ((hl f).symm.trans (by rw [el];rfl));have K:=hC c C hc
   have rv:=hi f _ v el ev;exact get_map I1.Fg O (K.c.get f) K.c.hd (K.n f hf) ev rv.handed ⟨g1,l1,I1.tok _,rv⟩
 | _=>rw [ev] at h;cases h
theorem qc:∀{fs:List (Str × T)} {f y:Str} {t:T},(jJ fs f t).lookup y=if y=f then some t else fs.lookup y
 | [],f,y,t=>by
  unfold jJ;rw [Vy];by_cases h:y=f
  ·subst h;simp
  ·have:(y == f)=false:=by simpa using h
   simp [this,h]
 | (a,b)::fs,f,y,t=>by
  unfold jJ;split
  ·rename_i e
   subst e;rw [Vy,Vy];by_cases h:y=a
   ·subst h;simp
   ·have:(y == a)=false:=by simpa using h
    simp [this,h]
  ·rename_i e
   rw [Vy,Vy,qc];cases q:y == a with
   | true =>
    have:y=a:=by simpa using q
    subst this;simp only [if_neg e]
   | false=>rfl
theorem m9:∀{fs:List (Str × T)} {f:Str} {t:T},(fs.map (·.1)).Nodup->((jJ fs f t).map (·.1)).Nodup/\(jJ fs f t).length<=fs.length+1/\∀y,y∈(jJ fs f t).map (·.1)->y=f\/y∈fs.map (·.1)
 | [],f,t,_=>⟨by simp [jJ],by simp [jJ],fun y h=>Or.inl (by simpa [jJ] using h)⟩
 | (a,b)::fs,f,t,h=>by
  rw [Vg,VW] at h;unfold jJ;split
  ·rename_i e
   subst e;exact⟨by rw [Vg,VW];exact h,by simp,fun y hy=>Or.inr (by rw [Vg] at hy ⊢;exact hy)⟩
  ·rename_i e
   obtain⟨h1,h2,h3⟩:=m9 (f:=f) (t:=t) h.2;refine⟨?_,by simp;omega,fun y hy=>?_⟩
   ·rw [Vg,VW]
    exact⟨fun z=>(h3 a z).elim e h.1,h1⟩
   ·rw [Vg,Vn] at hy
    rcases hy with hy|hy
    ·exact Or.inr (by rw [Vg];exact Vn.mpr (Or.inl hy))
    ·exact(h3 y hy).imp id fun z=>by rw [Vg];exact U5 _ z
theorem Ck {fl:List Str} (hC:∀c C,X.cls c=some C->ClsOk X.K fl C) (hf:f∈fl) (ho:PE X o mb) (he:PE X e m) (hs:jg e=true):PS X (.Assign [.Attribute o f apos] e pos) (jt mb f m):=fun {pins φ g L s} I h=>by
 obtain⟨t,L1,e1,e2,h⟩:=iw h;rw [show jt mb f m φ L=_ from e2];obtain⟨x,L2,e3,e4,h⟩:=iw h;rw [e4];cases ep:t8 f x t L2 with
 | none=>simp only [ep] at h;exact absurd rfl h
 | some L3 =>
  simp only [ep];refine plainObj_wpAny_Assign_Attribute (thn (he I e1) fun u s1 ⟨g1,l1,I1,r1⟩=>thn (ho I1 e3) fun ov s2 ⟨g2,l2,I2,r2⟩=>?_) (jM hs);have RV:=r1.le l2
  unfold t8 at ep;cases x with
  | ref n =>
   cases r2 with
   | ref hp =>
    rename_i p;cases ea:at_ L2 n with
    | none=>simp only [ea] at ep;cases ep
    | some c =>
     cases c with
     | obj cn fs =>
      simp only [ea] at ep;split at ep
      ·rename_i JD
       cases ep;obtain⟨q,h1,h2⟩:=I2.rel.cells n _ ea;rw [hp] at h1;cases h1;obtain⟨a,d,C,es,eu,hc,O,hl,hi,hz,hn,ht,hne,hk,od,rC⟩:=I2.obj h2;rcases ht with z|z
       ·cases z
       cases z;have K:=hC cn C hc
       have hd2:g2.H d=some (false,od):=rC.elim id fun z=>by cases z.1
       have hk':g2.H a=some (false,V8 C d):=hk.elim id fun z=>by cases z.1
       have hw:PySem.Within (nsFind es) (fs.map (·.1)):=fun y hy=>by
        have z:(nsFind es y).isSome=true:=by cases q:nsFind es y with|none=>exact absurd q hy|some _=>rfl
        rw [<- hl y] at z;obtain⟨v,hv⟩:=V9.mp z;exact U6.mpr ⟨(y,v),VQ hv,rfl⟩
       refine Ci I2.Fg O K.c.sa K.c.po (K.n f hf).JC K.c.hd hw (by rw [Lm9,WB];omega) fun h' O' sb=>?_
       obtain⟨Qa,gf,IQ,ho',hd',hs',iA,hm'⟩:=O'.ns;have rP:=Le.set (o:=Qa) hd2
       refine⟨g2.set d Qa,(l1.trans l2).trans rP,I2.set (p:=(a,d)) hp (.inr rfl) hd2 (fun b v hb q=>(sb.2 b hb).trans q) ho' ?_⟩;have nm:=m9 (f:=f) (t:=t) hn
       refine .obj (.inr rfl) hne (by show g2.cls cn=_;rw [I2.gm];exact hc) (.inl ((aA (WA hne)).trans hk')) (.inl ar) hd' hs' iA (by omega) nm.1 (fun y=>?_) fun y z v q1 q2=>?_
       ·rw [qc,hm' y]
        by_cases hy:y=f
        ·simp [hy]
        ·simp only [hy,if_false];exact hl y
       ·rw [qc] at q1
        rw [hm' y] at q2;by_cases hy:y=f
        ·simp only [hy,if_true] at q1 q2
         cases q1;cases q2;exact RV.le rP
        ·simp only [hy,if_false] at q1 q2
         exact(hi y z v q1 q2).le rP
      ·cases ep
     | _=>simp only [ea] at ep;cases ep
  | _=>cases ep
end
structure xp (P:Wh) (w:Xg) (K:VD) (mg:Str->Option U8) (cls:Str->Option VJ) (base:Heap) (s:Vc) (g:G) (L:aa):Prop where
 mod:Mod K mg base
 bs:∀b o,base.get? b=some o->s.heap.get? b=some o/\g.H b=none
 IM:base.objs.size<=s.heap.objs.size
 hok:BQ g.H s.heap
 bare:AllBare s.gens
 rel:Rel g L
 gB:g.B=base
 gm:g.cls=cls
 gw:g.w=w
noncomputable def CE (g:G) (s:Vc) (t:T) (L':aa) (u:U8) (s':Vc):Prop:=∃g',s'.os=s.os/\AllBare s'.gens/\Un [] g.H g'.H s.heap s'.heap/\BQ g'.H s'.heap/\Le g g'/\Rel g' L'/\RT g' none t u
noncomputable def CR (g:G) (s:Vc) (t:T) (L':aa) (r:Result) (s':Vc):Prop:=match r with
 | .ok (.ret u)=>CE g s t L' u s'
 | _=>False
noncomputable def fH (P:Wh) (w:Xg) (K:VD) (mg:Str->Option U8) (cls:Str->Option VJ) (base:Heap) (k:Nat) (f:VJ) (m:Fn):Prop :=
 ∀{A:VZ} {s:Vc} {g:G} {L L':aa} {us:List U8} {xs:List T} {t:T},fG k A->xp P w K mg cls base s g L->cG g xs us->m xs L=.ok t L'->codeAny (model P w) A (.call (.ref f) ⟨us,[]⟩) (CR g s t L') s
section
variable {X:Cx} {pins:bf} {φ:Fr} {g g1:G} {L L':aa} {s s':Vc} {w t:T} {u:U8} {e o:Expr} {es:List Expr} {m ma mb:SE} {pos p apos:Pos} {x f:Str} {k:Nat} {fa C:VJ} {F:Fn} {ms:List SE}
theorem Inv.Ni (I:Inv X pins φ g L s):xp X.prog X.w X.K X.mg X.cls X.base s g L:=⟨I.ok.mod,I.bs,Vt I.ok.IM I.sz,I.hok,I.bare,I.rel,I.gB,I.gm,I.gw⟩
theorem Inv.after (I:Inv X pins φ g L s) (h:CE g s t L' u s'):EP X pins φ g t L' u s':=by
 obtain⟨g',os,bare,un,hok,l,rel,r⟩:=h;exact⟨g',l,I.call (ch:=[]) l os un hok bare rel (fun b z=>absurd z (by simp)),r⟩
theorem uu (hF:fH X.prog X.w X.K X.mg X.cls X.base k fa F) (hr:fG k X.A):dS X (.ref fa) F:=fun I r h=>by
 refine wpAny_call (codeAny_mono (hF hr I.Ni r h) fun r s' hq=>?_);cases r with
 | error e=>exact ZJ hq
 | ok fl=>cases fl <;> first|exact I.after hq|exact ZJ hq
theorem bR {env:Env}:∀{es:List Expr},es.all bh=true->(backTo pos (starEach es env)).any (·.1)=false
 | [],_=>rfl
 | e::es,h=>by
  rw [VU,Ve] at h;rw [az h.1];show(false || (backTo pos (starEach es env)).any (·.1))=false
  rw [bR h.2];rfl
theorem Cm (hF:dS X (.ref fa) F) (hg:Gl X x) (hm:X.mg x=some (.ref fa)) (hk:Wj X.K (.ref fa)=true) (JE:(x == ("__debug__":Str))=false):PE X (.Call (.Name x p) [] [] pos) (ae F []):=fun I h =>
 wpAny_Call_Name_kw (pZ I hg hm (aaI I.Fg hk (hF (us:=[]) I .nil h)) JE)
theorem Gf (hF:dS X (.ref fa) F) (hg:Gl X x) (hm:X.mg x=some (.ref fa)) (hk:Wj X.K (.ref fa)=true) (ha:PA X (e::es) (iS ms)) (hs:(e::es).all bh=true) (JE:(x == ("__debug__":Str))=false):PE X (.Call (.Name x p) (e::es) [] pos) (ae F ms):=fun I h=>by
 obtain⟨ts,L1,e1,h⟩:=R.of h;rw [VU,Ve] at hs;exact wpAny_Call_Name_kw (pZ I hg hm (aaR (h₀:=X.base) I.ok.mod.IL hk (thn (ha pos I e1) fun us s1 ⟨g1,l1,I1,r1⟩=>⟨I1.Fg,thn (hF I1 r1 h) fun _ _ z=>z.le l1⟩) (az hs.1) (bR hs.2)) JE)
theorem rQ {env:Env}:∀{es:List Expr},es.all bh=true->(backTo pos (starEach es env)).all (fun x=>!x.1)=true
 | [],_=>rfl
 | e::es,h=>by
  rw [VU,Ve] at h;rw [az h.1];show(true && (backTo pos (starEach es env)).all (fun x=>!x.1))=true
  rw [rQ h.2];rfl
theorem uw {env:Env} (h:es.all bh=true) (hl:es.length<30):((backTo pos (starEach es env)).all (fun x=>!x.1) && (backToKw pos (keywordEach [] env)).all (fun x=>x.1.isSome)
   && decide (es.length+([]:List Keyword).length+(if ([]:List Keyword).isEmpty then 0 else 1)<30))=true:=by
 rw [rQ h];show(true && true && decide (es.length+0+0<30))=true
 rw [decide_eq_true (show es.length+0+0<30 by omega)];rfl
theorem Cn {o:Expr} {m:Str} {apos pos:Pos} {es:List Expr} {env:Env} (hb:okBase o=true) (h:es.all bh=true) (hl:es.length<30) (ni:(apos.endLine == pos.line)=true) :
  eval (.Call (.Attribute o m apos) es [] pos) env=(do
   let ov <- eval o env
   standAt apos.atName
   let (f,first) <- holding [ov] (getMethod ov m (do return (<- importBound o env).getD true))
   callWith pos f first (backTo pos (starEach es env)) (backToKw pos (keywordEach [] env))):=by
 rw [arm_eval_Call,base_ok hb];have hf:methodCallForm (es.length+([]:List Keyword).length) (backTo pos (starEach es env)) (backToKw pos (keywordEach [] env))=true:=uw h hl
 congr 1;funext ov;congr 1;funext _;unfold methodCall;rw [hf];have hp:methodCallPos true o env apos pos=pure pos:=by
  unfold methodCallPos;rw [ni];rfl
 rw [hp];have hc:calleeOf true o env ov m=getMethod ov m (do return (<- importBound o env).getD true):=rfl
 rw [hc];rfl
theorem Co {mf:Str->Option Fn} (hM:∀c C Fn,X.cls c=some C->mf c=some Fn->∃fa,Cj X.K C/\Meth X.K C x fa/\dS X (.ref fa) Fn) (ho:PE X o m) (ha:PA X es (iS ms)) (h0:es=[]->ms=[]) (hs:es.all bh=true) (hl:es.length<30) (hb:okBase o=true) (ni:(apos.endLine == pos.line)=true) :
  PE X (.Call (.Attribute o x apos) es [] pos) (pX x mf m ms):=fun I h=>by
 obtain⟨t,L1,e1,h⟩:=R.of h;refine PySem.W.methodCall_KW (thn (ho I e1) fun u s1 ⟨g1,l1,I1,r1⟩=>?_) (Cn hb hs hl ni);obtain⟨p,r⟩:=I1.view r1;cases ev:vw L1 t with
 | obj c fs =>
  simp only [ev] at h;rw [ev] at r;obtain⟨a,d,C,gf,rfl,hc,O,hl',hi,_⟩:=I1.obj r;cases em:mf c with
  | none=>simp only [em] at h;cases h
  | some F =>
   simp only [em] at h;split at h
   ·rename_i hn
    obtain⟨ts,L2,e2,h⟩:=R.of h;obtain⟨fa,c,hm,hF⟩:=hM c C F hc em;have RW:nsFind gf x=none:=by
     have z:=hl' x;cases q:nsFind gf x with
     | none=>rfl
     | some v=>rw [q] at z;cases q2:fs.lookup x with
      | none=>rw [q2] at z;cases z
      | some _=>rw [q2] at hn;cases hn
    refine yL I1.Fg O (c.get x) hm.at_ hm.fn RW ?_
    cases es with
    | nil =>
     cases h0 rfl;cases e2;exact aaI (first:=[.ref a]) I1.Fg hm.kp (thn (hF (us:=[.ref a]) I1 (.cons r1 .nil) h) fun _ _ z=>z.le l1)
    | cons e es =>
     rw [VU,Ve] at hs;exact aaR (first:=[.ref a]) (h₀:=X.base) I.ok.mod.IL hm.kp (thn (ha pos I1 e2) fun us s2 ⟨g2,l2,I2,r2⟩=>⟨I2.Fg,thn (hF (us:=.ref a::us) I2 (.cons (r1.le l2) r2) h) fun _ _ z=>z.le (l1.trans l2)⟩) (az hs.1) (bR hs.2)
   ·cases h
 | _=>simp only [ev] at h;cases h
end
theorem xq {a b:Nat} (h:a<b\/b<a):a≠b:=fun e=>by omega
structure mG (N ps:List Str) (sc:Scope):Prop where
 kind:sc.kind=.function
 co:sc.isCoroutine=false
 gen:sc.isGenerator=false
 nd:N.Nodup
 pre:N.take ps.length=ps
 par:∀x∈ps,sc.names.lookup x=some .local\/sc.names.lookup x=some .cell
 ux:∀y∈sc.names,y.2≠.free
noncomputable def yN (P:Wh) (w:Xg) (K:VD) (mg:Str->Option U8) (cls:Str->Option VJ) (base:Heap) (N:List Str) (qual:Str) (scope:Scope) (f:VJ) (cd:U8) (A:VZ) (s:Vc) (H:Hp):Cx where
 prog:=P
 w:=w
 K:=K
 mg:=mg
 cls:=cls
 base:=base
 A:=A.deeper (envOfC qual scope s.heap.objs.size f cd)
 N:=N
 s₀:=s
 H₀:=H
 env:=envOfC qual scope s.heap.objs.size f cd
 ex:=[]
 fn:=fun _=>true
section
variable {P:Wh} {w:Xg} {K:VD} {mg:Str->Option U8} {cls:Str->Option VJ} {base:Heap} {N ps:List Str} {qual:Str} {scope:Scope} {f:VJ} {cd:U8} {A:VZ} {s s1:Vc} {g:G} {L:aa}
theorem oZ {us:List U8} {xs:List T} (S:mG N ps scope) (hd:A.handled=none) (e0:xp P w K mg cls base s g L) (hl:xs.length=ps.length) (r:cG g xs us)
  (x:InCallC s s.heap.objs.size (bindL (envOfC qual scope s.heap.objs.size f cd).kindOf (ps.zip us) fun _=>none) (cellsFrom (s.heap.objs.size+1) scope.names []) (bindC (envOfC qual scope s.heap.objs.size f cd).kindOf (ps.zip us) fun _=>none) s1) :
  Inv (yN P w K mg cls base N qual scope f cd A s g.H) [] (xs.map some++VI (N.length - ps.length) none) g L s1:=by
 have hpl:ps.length<=N.length:=by have:=congrArg Xr S.pre;rw [VS] at this;omega
 obtain⟨h1,tk,rfl,hk⟩:=x.done;refine⟨⟨e0.mod,S.kind,rfl,rfl,Vm _,fun y z c h1 h2=>?_,fun y hy=>?_,fun y c _ h=>?_,hd,fun b z=>absurd z (by simp [yN]),e0.bs,e0.IM,fun b _ _=>by simp [yN]⟩,
  rfl,e0.bare,Un.kept hk,⟨_,x.toInCall.ns,fun i y v h1 h2 h3=>?_⟩,fun y c h=>⟨_,x.cell y c h⟩,e0.hok.fresh (Vm _),fun y c h=>?_,fun p hp=>(by simp at hp),fun a b o e=>hk a o (e0.hok a b o e),?_,e0.rel,e0.gB,e0.gm,e0.gw⟩
 ·exact name_of_addr x.apart (VQ h1) (VQ h2)
 ·have hy:scope.names.lookup y=some .cell\/scope.names.lookup y=some .free:=hy
  rcases hy with hy|hy
  ·exact rO hy
  ·exact absurd rfl (S.ux _ (VQ hy))
 ·exact Ys (x.above y c (VQ h))
 ·have hi:i<xs.length:=by
   by_cases hi:i<xs.length
   ·exact hi
   ·rw [List.getElem?_append_right (by simpa using hi),List.getElem?_replicate] at h2
    split at h2 <;> cases h2
  have ha:xs[i]?=some v:=by
   rw [List.getElem?_append_left (by simpa using hi),Vs] at h2;cases e:xs[i]? with
   | none=>rw [e] at h2;cases h2
   | some a=>rw [e] at h2;cases h2;rfl
  obtain⟨u,hu,rv⟩:=ub r ha;have hp:ps[i]?=some y:=by
   rw [<- S.pre,List.getElem?_take_of_lt (by omega)];exact h1
  have Qb:ps.Nodup:=by rw [<- S.pre];exact S.nd.sublist (List.take_sublist _ _)
  refine⟨u,rv,?_⟩;rcases S.par y (VN hp) with k|k
  ·exact .inl ⟨k,oX Qb hp hu k⟩
  ·obtain⟨c,e⟩:=rO (n:=s.heap.objs.size+1) k
   refine .inr ⟨.inl k,c,e,?_⟩;have q:=x.cell y c e
   rw [oY Qb hp hu (by show scope.names.lookup y≠_;rw [k];decide)] at q;exact q
 ·exact e0.hok.fresh (Ys (x.above y c (VQ h)))
 ·show _=N.length
  rw [U3,Lm9,List.length_replicate];omega
theorem yO {g1:G} {L1 Lo:aa} {s':Vc} {t t':T} {u:U8} (e0:xp P w K mg cls base s g L) (os:s'.os=s.os) (bare:AllBare s'.gens) (un:Un [] g.H g1.H s.heap s'.heap) (hok:BQ g1.H s'.heap) (l:Le g g1) (rel:Rel g1 L1) (r:RT g1 none t u) (e:fin L t L1=.ok t' Lo):CE g s t' Lo u s':=by
 obtain⟨g2,l2,r2,h2,a,b,c⟩:=Ge l e0.rel rel r e;exact⟨g2,os,bare,⟨un.keep,fun x o q n z=>b x (un.free x o q n z),fun x o q=>c x o (un.cf x o q)⟩,fun x y o q=>let ⟨_,z⟩:=a x y o q;hok x _ o z,l2,r2,h2⟩
theorem JF {k:Nat} {name:Str} {params:Arguments} {body:List Stmt} {dV kV doc pm gP ct oc:U8} {an od:Option VJ} {tV:Array (Option U8)} {mb:SS} (lk:K.lookup f=some ⟨oc,od,.func (W3 name qual params body scope dV kV doc pm an gP ct),tV⟩) (hcd:XM K gP qual=true) (S:mG N ps scope)
  (yP:∀us:List U8,us.length=ps.length->bindArgs (W3 name qual params body scope dV kV doc pm an gP ct) ⟨us,[]⟩=pure (ps.zip us))
  (jT:∀(A:VZ) (s:Vc) (H:Hp),fG k (A.deeper (envOfC qual scope s.heap.objs.size f gP))->yr (yN P w K mg cls base N qual scope f gP A s H) body mb) :
  fH P w K mg cls base (k+1) f (run ps.length N.length mb):=fun {A s g L L' us xs t} hr e0 r oF=>by
 unfold run at oF;split at oF
 ·rename_i hl
  have Nj:us.length=ps.length:=by rw [<- Vr r];exact hl
  have KX:K.In s.heap:=e0.mod.IL.keeps fun b o e=>(e0.bs b o e).1
  have lim:s.heap.NoLimit:=e0.mod.nolimit.keeps fun b o e=>(e0.bs b o e).1
  have hkind:∀y∈ps.zip us,scope.names.lookup y.1=some .local\/(scope.names.lookup y.1=some .cell/\((cellsFrom (s.heap.objs.size+1) scope.names []).lookup y.1).isSome=true):=fun⟨n,v⟩ hy=>by
   rcases S.par n (XX hy).1 with q|q
   ·exact .inl q
   ·exact .inr ⟨q,YH _ _ _ (.inl q)⟩
  refine codeAny_call_function hr.depth (KX _ _ lk) rfl S.co S.gen rfl (aaS KX hcd) (BindsTo.of_eq (yP us Nj) _ _ _ _ ?_);refine wpAny_newFunctionEnv_cells S.kind hkind fun env he s1 x=>?_
  subst he;refine⟨lim.keeps x.toInCall.keep,codeAny_func ?_⟩;have I:=oZ (A:=A) (cd:=gP) S hr.hd e0 hl r x
  have nb:mb (xs.map some++VI (N.length - ps.length) none) L≠.bad:=fun z=>by rw [z] at oF;cases oF
  refine wpAny_mono (jT A s g.H (hr.deeper _) I nb) (fun fl s' ⟨g',l,hs⟩=>?_) fun e s' hs=>hs.elim
  cases eb:mb (xs.map some++VI (N.length - ps.length) none) L with
  | nx φ' L1 =>
   rw [eb] at hs oF;cases fl <;> first|exact hs.elim|exact yO e0 hs.os hs.bare hs.base hs.hok l hs.rel .b7 oF
  | rt t0 L1 =>
   rw [eb] at hs oF;cases fl <;> first|exact hs.elim|skip
   obtain⟨⟨φ',J⟩,rt⟩:=hs;exact yO e0 J.os J.bare J.base J.hok l J.rel rt oF
  | _=>rw [eb] at oF;cases oF
 ·cases oF
structure Mk (K:VD) (C f:VJ):Prop where
 makes:Zb K C=true
 init:Wc K (.ref C) "__init__"=some (some (.ref f))
 fn:Yu K (.ref f)=true
 kp:Wj K (.ref C)=true
theorem JG {k:Nat} {C:VJ} {cn:Str} {init:Fn} (M:Mk K C f) (hF:fH P w K mg cls base k f init) (hc:cls cn=some C):fH P w K mg cls base (k+1) C (make cn init):=fun {A s g L L' us xs t} hr e0 r h=>by
 have KX:K.In s.heap:=e0.mod.IL.keeps fun b o e=>(e0.bs b o e).1
 refine yM KX M.makes M.init (beq_iff_eq.mp M.fn) ?_;generalize hn:s.heap.objs.size=n;have fr:∀a,n<=a->g.H a=none:=fun a ha=>e0.hok.fresh (by rw [hn];exact ha)
 have e1:(s.heap.push Wb).get? n=some Wb:=by rw [<- hn];exact U9 s.heap rfl
 have e2:((s.heap.push Wb).push (V8 C n)).get? (n+1)=some (V8 C n):=by
  have:=U9 (s.heap.push Wb) (o:=V8 C n) rfl;rwa [Wi,hn] at this
 have e1':((s.heap.push Wb).push (V8 C n)).get? n=some Wb:=U1 _ e1;have kp:∀b o,s.heap.get? b=some o->((s.heap.push Wb).push (V8 C n)).get? b=some o:=fun b o q=>U1 _ (U1 _ q)
 have cb:∀b o,s.heap.get? b=some o->b<n:=fun b o q=>by rw [<- hn];exact Vu q
 let g1:G:={ g with H:=upd (upd g.H n (false,Wb)) (n+1) (false,V8 C n),α:=(n+1,n)::g.α }
 have old:∀b,b<n->g1.H b=g.H b:=fun b hb=>(aA (xq (by omega))).trans (aA (xq (by omega)))
 have tr:∀b x,g.H b=some x->b<n:=fun b x q=>cb b x.2 (e0.hok b x.1 x.2 q)
 have h1:g1.H n=some (false,Wb):=(aA (xq (by omega))).trans ar;have h2:g1.H (n+1)=some (false,V8 C n):=ar
 have l1:Le g g1:=⟨fun b o q=>(old b (tr b _ q)).trans q,fun _ _ q=>mC q,rfl,rfl,rfl⟩;have alt:∀m q,at_ g.α m=some q->q.1<n/\q.2<n:=fun m q e=>by
  obtain⟨⟨o1,z1⟩,o2,z2⟩:=e0.rel.live m q e;exact⟨tr _ _ z1,tr _ _ z2⟩
 have ob:RT g1 (some (n+1,n)) (.obj cn []) (.ref (n+1)):=.obj (od:=Wb) (es:=#[]) (n:=0) (.inr rfl) (xq (by omega)) (by show g.cls cn=_;rw [e0.gm];exact hc) (.inl h2) (.inl h1) rfl (fun e he=>absurd he (by simp)) (by simp [UniqKeys]) (by simp) (by simp) (fun f=>rfl) fun f x v q=>by simp at q
 have Nk:Rel g1 (.obj cn []::L):=by
  refine⟨by show((n+1,n)::g.α).length=_;simp [e0.rel.len],fun m c q=>?_,fun m m' p q q1 q2 hne=>?_,fun m p q=>?_⟩
  ·unfold at_ at q
   split at q
   ·rename_i em
    cases q;exact⟨(n+1,n),by rw [em,<- e0.rel.len];exact fk,ob⟩
   ·obtain⟨p,z1,z2⟩:=e0.rel.cells m c q
    refine⟨p,mC z1,z2.up l1 fun q z=>?_⟩;cases z;exact⟨old _ (alt m p z1).1,old _ (alt m p z1).2⟩
  ·have q1:at_ ((n+1,n)::g.α) m=some p:=q1
   have q2:at_ ((n+1,n)::g.α) m'=some q:=q2
   unfold at_ at q1 q2
   split at q1
   ·cases q1
    split at q2
    ·omega
    ·have z:=alt m' q q2;exact⟨xq (.inr (Wa z.1)),xq (.inr (Wa z.2)),xq (.inr z.1),xq (.inr z.2)⟩
   ·split at q2
    ·cases q2
     have z:=alt m p q1;exact⟨xq (.inl (Wa z.1)),xq (.inl z.1),xq (.inl (Wa z.2)),xq (.inl z.2)⟩
    ·exact e0.rel.apart m m' p q q1 q2 hne
  ·have q:at_ ((n+1,n)::g.α) m=some p:=q
   unfold at_ at q
   split at q
   ·cases q;exact⟨⟨_,h2⟩,_,h1⟩
   ·obtain⟨⟨o1,z1⟩,o2,z2⟩:=e0.rel.live m p q
    have z:=alt m p q;exact⟨⟨o1,(old _ z.1).trans z1⟩,o2,(old _ z.2).trans z2⟩
 have RX:xp P w K mg cls base { s with heap:=(s.heap.push Wb).push (V8 C n) } g1 (.obj cn []::L):=by
  refine⟨e0.mod,fun b o q=>⟨kp b o (e0.bs b o q).1,(old b (cb b o (e0.bs b o q).1)).trans (e0.bs b o q).2⟩,?_,fun a b o q=>?_,e0.bare,Nk,e0.gB,e0.gm,e0.gw⟩
  ·show _<=((s.heap.push _).push _).objs.size
   rw [Wi,Wi];have:=e0.IM;omega
  ·by_cases z1:a=n+1
   ·subst z1;rw [h2] at q;cases q;exact e2
   ·by_cases z2:a=n
    ·subst z2;rw [h1] at q;cases q;exact e1'
    ·have q:g.H a=some (b,o):=by rw [<- q];exact((aA z1).trans (aA z2)).symm
     exact kp a o (e0.hok a b o q)
 unfold make at h;cases ei:init (.ref L.length::xs) (.obj cn []::L) with
 | bad=>rw [ei] at h;cases h
 | ok t0 L1 =>
  rw [ei] at h;cases t0 with
  | b7 =>
   have r1:cG g1 (.ref L.length::xs) (.ref (n+1)::us):=.cons (.ref (p:=(n+1,n)) (by show at_ ((n+1,n)::g.α) _=_;rw [<- e0.rel.len];exact fk)) (r.le l1);refine codeAny_mono (hF (hr.make C us []) RX r1 ei) fun r s' hq=>?_
   cases r with
   | error e=>exact ZJ hq
   | ok fl =>
    cases fl with
    | ret u =>
     obtain⟨g2,os,bare,un,hok,l2,Nl,r2⟩:=hq;cases r2;refine⟨rfl,?_⟩;have RY:Un [] g.H g2.H s.heap s'.heap:=⟨fun b o q z x=>un.keep b o (kp b o q) ((old b (cb b o q)).trans z) x,fun b o q z x=>un.free b o (kp b o q) ((old b (cb b o q)).trans z) x,fun b o q=>un.cf b o (l1.f b o q)⟩
     have ra:RT g2 none (.ref L.length) (.ref (n+1)):=.ref (p:=(n+1,n)) (l2.α _ _ (by show at_ ((n+1,n)::g.α) _=_;rw [<- e0.rel.len];exact fk));exact yO e0 os bare RY hok (l1.trans l2) Nl ra h
    | _=>exact ZJ hq
  | _=>cases h
end
section
variable {X:Cx} {pins:bf} {φ:Fr} {g:G} {L:aa} {s:Vc}
theorem str_beq {a b:Cs}:((⟨a.toArray⟩:Str) == ⟨b.toArray⟩)=(a == b):=by
 rw [WQ,beq_iff_eq,beq_iff_eq];constructor
 ·intro h
  have:=congrArg (fun x:Str=>x.cps.toList) h;simpa using this
 ·rintro rfl;rfl
theorem iV {f:T->T->Bool}:∀(a b:List T),((V5 (min a.length b.length)).all (fun i=>f (a.getD i .b7) (b.getD i .b7)) && a.length == b.length)=ou f a b
 | [],[]=>rfl
 | [],b::q=>by simp [ou]
 | a::r,[]=>by simp [ou]
 | a::r,b::q=>by
  rw [ou,<- iV r q];have e:min (a::r).length (b::q).length=min r.length q.length+1:=by simp only [Vb];omega
  rw [e,aak,VU,aaw];have e2:((a::r).length == (b::q).length)=(r.length == q.length):=by simp
  rw [e2,Bool.and_assoc];rfl
theorem yQ {n:Nat} {xs:List T} (h:xs.all (dat n)=true) {i:Nat} (hi:i<xs.length):dat n (xs.getD i .b7)=true:=by
 rw [Gd9,Ge9 hi];exact U7.mp h _ (Vp hi)
theorem getD_at {xs:List T} {i:Nat} (hi:i<xs.length):xs[i]?=some (xs.getD i .b7):=by
 rw [Gd9,Ge9 hi];rfl
theorem jU {f:T->T->Bool}:∀{xs:List T},(∀x∈xs,f x x=true)->ou f xs xs=true
 | [],_=>rfl
 | x::xs,h=>by rw [ou,h x U4,jU fun y hy=>h y (U5 _ hy)];rfl
theorem Gg {a:T} (h:dat 0 a=true):False:=by cases a <;> cases h
theorem iB:∀(n:Nat) {a:T},dat n a=true->vI n a a=true
 | 0,a,h=>(Gg h).elim
 | n+1,a,h=>by
  cases a with
  | b7=>rfl
  | bl k=>exact beq_self_eq_true k
  | int i=>exact beq_self_eq_true i
  | str z=>exact beq_self_eq_true z
  | tup xs=>exact jU fun x hx=>iB n (U7.mp h x hx)
  | lst xs=>exact jU fun x hx=>iB n (U7.mp h x hx)
  | _=>cases h
noncomputable def It (g:G) (n:Nat) (xs:List T) (its:Array U8):Prop:=xs.all (dat n)=true/\xs.length=its.size/\∀(i:Nat) x v,xs[i]?=some x->its[i]?=some v->RT g none x v
theorem Inv.dv (I:Inv X pins φ g L s) {n:Nat} {p:Option (VJ × VJ)} {P:T->U8->Prop} (c1:P .b7 .none) (c2:∀b,P (.bl b) (.bool b)) (c3:∀i t,P (.int i) (.int i t)) (c4:∀z t,P (.str z) (.str ⟨z.toArray⟩ t))
  (c5:∀xs a its,s.heap.IsTuple a its->It g n xs its->P (.tup xs) (.ref a)) (c6:∀xs a its,s.heap.IsList a its->It g n xs its->P (.lst xs) (.ref a)) {a:T} {u:U8} (h:dat (n+1) a=true) (r:RT g p a u):P a u:=by
 cases r with
 | b7=>exact c1
 | bl b=>exact c2 b
 | int i t=>exact c3 i t
 | str z t _=>exact c4 z t
 | tup hk hc hd _ hl hi=>exact c5 _ _ _ ⟨_,I.kn hk,hc.1,_,hd⟩ ⟨h,hl,hi⟩
 | lst _ hk _ hl hi=>exact c6 _ _ _ (ah (I.kn hk)) ⟨h,hl,hi⟩
 | _=>cases h
noncomputable def tO:U8->Option T
 | .none=>some .b7
 | .bool b=>some (.bl b)
 | .int i _=>some (.int i)
 | .str z _=>some (.str z.cps.toList)
 | _=>none
noncomputable def Sq (s:Vc) (k:Bool) (a:VJ) (its:Array U8):Prop:=∃o,s.heap.get? a=some o/\o.cls=.type (if k=true then "tuple" else "list")/\∃n,o.data=.seq its n
theorem Sq.eq {k j:Bool} {a:VJ} {x y:Array U8} (h:Sq s k a x) (h':Sq s j a y):k=j/\x=y:=by
 obtain⟨o,e,c,m,d⟩:=h;obtain⟨_,e',c',m',d'⟩:=h';cases WN (e.symm.trans e');refine⟨?_,(Data.seq.inj (d.symm.trans d')).1⟩;have z:=c.symm.trans c'
 clear c c'
 revert k j
 decide
theorem Inv.uniq (I:Inv X pins φ g L s):∀(n:Nat) {p q:Option (VJ × VJ)} {a b:T} {u:U8},dat n a=true->dat n b=true->RT g p a u->RT g q b u->a=b
 | 0,_,_,a,_,_,h,_,_,_=>(Gg h).elim
 | n+1,_,_,_,_,_,ha,hb,ra,rb=>by
  have key:∀{p a u},dat (n+1) a=true->RT g p a u->tO u=some a\/∃k d its xs,u=.ref d/\Sq s k d its/\It g n xs its/\a=if k=true then .tup xs else .lst xs:=fun h r =>
   I.dv (P:=fun a u=>tO u=some a\/∃k d its xs,u=.ref d/\Sq s k d its/\It g n xs its/\a=if k=true then .tup xs else .lst xs) (.inl rfl) (fun _=>.inl rfl) (fun _ _=>.inl rfl) (fun _ _=>.inl rfl)
    (fun xs a its h j=>.inr ⟨true,a,its,xs,rfl,h,j,rfl⟩) (fun xs a its h j=>.inr ⟨false,a,its,xs,rfl,h,j,rfl⟩) h r
  rcases key ha ra with h|⟨k,d,its,xs,rfl,hk,i,rfl⟩
  ·rcases key hb rb with h'|⟨_,_,_,_,rfl,_⟩
   ·exact WN (h.symm.trans h')
   ·cases h
  ·rcases key hb rb with h'|⟨j,_,RZ,ys,z,hj,i',rfl⟩
   ·cases h'
   ·cases Value.ref.inj z
    obtain⟨rfl,rfl⟩:=hk.eq hj;rw [show xs=ys from WJ (i.2.1.trans i'.2.1.symm) fun m hi hj=>I.uniq n (U7.mp i.1 _ (Vp hi)) (U7.mp i'.1 _ (Vp hj)) (i.2.2 m _ _ (Ge9 hi) (Vf (i.2.1 ▸ hi))) (i'.2.2 m _ _ (Ge9 hj) (Vf (i.2.1 ▸ hi)))]
theorem Inv.same (I:Inv X pins φ g L s) (n:Nat) {p q:Option (VJ × VJ)} {a b:T} {u:U8} (ha:dat n a=true) (hb:dat n b=true) (ra:RT g p a u) (rb:RT g q b u):vI n a b=true:=by
 rw [I.uniq n ha hb ra rb];exact iB n hb
theorem both {A:VZ} {a b:VJ} {k:Bool} (h:SeqAt.RcAt A s (.ref a) (.ref b) k) (he:a=b->k=true):SeqAt.RcAt A s (.ref a) (.ref b) k/\Xj A s (.ref a) (.ref b) k:=⟨h,by
 by_cases e:a=b
 ·subst e;rw [he rfl];exact SeqAt.EqAt.same _
 ·exact SeqAt.EqAt.of_refs e h⟩
theorem It.eq (I:Inv X pins φ g L s) {n:Nat} {xs ys:List T} {its:Array U8} (i:It g n xs its) (j:It g n ys its):ou (vI n) xs ys=true:=by
 rw [show ys=xs from WJ (j.2.1.trans i.2.1.symm) fun m hj hi=>I.uniq n (U7.mp j.1 _ (Vp hj)) (U7.mp i.1 _ (Vp hi)) (j.2.2 m _ _ (Ge9 hj) (Vf (i.2.1 ▸ hi))) (i.2.2 m _ _ (Ge9 hi) (Vf (i.2.1 ▸ hi)))];exact jU fun x hx=>iB n (U7.mp i.1 x hx)
abbrev Rq (A:VZ) (s:Vc) (n:Nat) (a:T) (u:U8) (b:T) (v:U8):Prop:=SeqAt.RcAt A s u v (vI n a b)/\Xj A s u v (vI n a b)
open SeqAt in
theorem Inv.rc (I:Inv X pins φ g L s):∀(n:Nat) {A:VZ} {p q:Option (VJ × VJ)} {a b:T} {u v:U8},dat n a=true->dat n b=true->A.units+n<cLine->RT g p a u->RT g q b v->Rq A s n a u b v
 | 0,_,_,_,a,_,_,_,h,_,_,_,_=>(Gg h).elim
 | n+1,A,_,_,a,b,u,v,ha,hb,hn,ra,rb=>by
  have hu:A.units<cLine:=by omega
  have it:∀{xs ys:List T} {x y:Array U8},It g n xs x->It g n ys y->∀j (h1:j<x.size) (h2:j<y.size),EqAt A.in1 s x[j] y[j] (vI n (xs.getD j .b7) (ys.getD j .b7)):=fun i k j h1 h2 =>
   (I.rc n (yQ i.1 (i.2.1 ▸ h1)) (yQ k.1 (k.2.1 ▸ h2)) (by show A.units+1+n<cLine;omega) (i.2.2 j _ _ (getD_at (i.2.1 ▸ h1)) (Vf h1)) (k.2.2 j _ _ (getD_at (k.2.1 ▸ h2)) (Vf h2))).2
  refine I.dv (P:=fun a u=>Rq A s (n+1) a u b v) ?_ ?_ ?_ ?_ ?_ ?_ ha ra
  ·exact I.dv (P:=Rq A s (n+1) .b7 .none) ⟨.none_none,.same _⟩ (fun _=>⟨.none_bool _,.none_bool _⟩) (fun _ _=>⟨.none_int _ _,.none_int _ _⟩) (fun _ _=>⟨.none_str _ _,.none_str _ _⟩) (fun _ _ _ h _=>⟨.none_tuple h hu,.none_tuple h hu⟩) (fun _ _ _ h _=>⟨.none_list h hu,.none_list h hu⟩) hb rb
  ·exact fun _=>I.dv (P:=Rq A s (n+1) (.bl _) (.bool _)) ⟨.bool_none _,.bool_none _⟩ (fun _=>⟨.bool_bool _ _,.bool_bool _ _⟩) (fun _ _=>⟨.bool_int _ _ _,.bool_int _ _ _⟩) (fun _ _=>⟨.bool_str _ _ _,.bool_str _ _ _⟩) (fun _ _ _ h _=>⟨.bool_tuple _ h hu,.bool_tuple _ h hu⟩) (fun _ _ _ h _=>⟨.bool_list _ h hu,.bool_list _ h hu⟩) hb rb
  ·exact fun _ _=>I.dv (P:=Rq A s (n+1) (.int _) (.int _ _)) ⟨.int_none _ _,.int_none _ _⟩ (fun _=>⟨.int_bool _ _ _,.int_bool _ _ _⟩) (fun _ _=>⟨.int_int _ _ _ _,.int_int _ _ _ _⟩) (fun _ _=>⟨.int_str _ _ _ _,.int_str _ _ _ _⟩) (fun _ _ _ h _=>⟨.int_tuple _ _ h hu,.int_tuple _ _ h hu⟩) (fun _ _ _ h _=>⟨.int_list _ _ h hu,.int_list _ _ h hu⟩) hb rb
  ·exact fun z _=>I.dv (P:=Rq A s (n+1) (.str z) (.str ⟨z.toArray⟩ _)) ⟨.str_none _ _,.str_none _ _⟩ (fun _=>⟨.str_bool _ _ _,.str_bool _ _ _⟩) (fun _ _=>⟨.str_int _ _ _ _,.str_int _ _ _ _⟩) (fun z2 _=>by
    show RcAt A s _ _ (z == z2)/\EqAt A s _ _ (z == z2);rw [<- str_beq];exact⟨.str_str _ _ _ _,.str_str _ _ _ _⟩) (fun _ _ _ h _=>⟨.str_tuple _ _ h hu,.str_tuple _ _ h hu⟩) (fun _ _ _ h _=>⟨.str_list _ _ h hu,.str_list _ _ h hu⟩) hb rb
  ·exact fun xs d x T1 i=>I.dv (P:=Rq A s (n+1) (.tup xs) (.ref d)) ⟨.tuple_none T1 hu,.tuple_none T1 hu⟩ (fun _=>⟨.tuple_bool _ T1 hu,.tuple_bool _ T1 hu⟩) (fun _ _=>⟨.tuple_int _ _ T1 hu,.tuple_int _ _ T1 hu⟩) (fun _ _=>⟨.tuple_str _ _ T1 hu,.tuple_str _ _ T1 hu⟩) (fun ys b y T2 k=>by
    have:=RcAt.tuples T1 T2 hu (it i k);rw [<- i.2.1,<- k.2.1,iV] at this;refine both this fun e=>?_
    subst e;cases (Sq.eq (k:=true) (j:=true) T1 T2).2;exact i.eq I k) (fun _ _ _ h _=>⟨.tuple_list T1 h hu,.tuple_list T1 h hu⟩) hb rb
  ·exact fun xs d x T1 i=>I.dv (P:=Rq A s (n+1) (.lst xs) (.ref d)) ⟨.list_none T1 hu,.list_none T1 hu⟩ (fun _=>⟨.list_bool _ T1 hu,.list_bool _ T1 hu⟩) (fun _ _=>⟨.list_int _ _ T1 hu,.list_int _ _ T1 hu⟩) (fun _ _=>⟨.list_str _ _ T1 hu,.list_str _ _ T1 hu⟩) (fun _ _ _ h _=>⟨.list_tuple T1 h hu,.list_tuple T1 h hu⟩) (fun ys b y T2 k=>by
    refine both ?_ fun e=>?_
    ·show RcAt A s _ _ (ou (vI n) xs ys)
     rw [<- iV,i.2.1,k.2.1];by_cases hs:x.size=y.size
     ·have:=RcAt.lists T1 T2 hs hu (it i k)
      rw [<- hs];simpa using this
     ·rw [show(x.size == y.size)=false by simpa using hs,YR];exact RcAt.lists_lengths T1 T2 (by simpa using hs) hu
    ·subst e
     cases (Sq.eq (k:=false) (j:=false) T1 T2).2;exact i.eq I k) hb rb
end
section
variable {X:Cx} {pins:bf} {φ:Fr} {g:G} {L:aa} {s:Vc} {xs ys:List T} {us vs:List U8}
theorem cG.app (h:cG g xs us) (h2:cG g ys vs):cG g (xs++ys) (us++vs):=by
 induction h with
 | nil=>exact h2
 | cons a _ ih=>exact .cons a ih
theorem yR {w:T} {t':Nat} {h':Heap} {n:Nat} (I:Inv X pins φ g L s) (r:cG g xs us) (hz:xs.length<=Vz) (k:∀b u,s.heap.get? b=some u->h'.get? b=some u) {a:VJ} (ha:s.heap.objs.size<=a) (new:h'.get? a=some { cls:=.type "tuple",data:=.seq us.toArray n }) :
  EP X pins φ g (.tup xs) L (.ref a) { s with heap:=h',toks:=t' } :=
 have f:=I.hok.fresh ha
 ⟨_,Le.lay f,I.laid k ha new,r.tup (Le.lay f) (.inl ar) ⟨rfl,rfl⟩ rfl hz⟩
theorem pd (c:Nat):∀(k:Nat) (a:Array Nat),(VI k (#[c]:Array Nat)).foldl (fun x1 x2=>x1++x2) a=a++(VI k c).toArray
 | 0,a=>by simp
 | k+1,a=>by
  rw [aaJ,Yy,pd c k,aaJ];apply Array.ext';simp
theorem Gh {fz:Bool} {op:Operator} {x y w:T} {L':aa} (h:aZ fz op x y L=.ok w L'):(∃i j,vw L x=.int i/\vw L y=.int j/\oI op i j L=.ok w L')\/(∃a b,vw L x=.str a/\vw L y=.str b/\op=.Add/\a.length+b.length<=lim/\w=.str (a++b)/\L'=L)\/(∃ch j,vw L x=.str [ch]/\vw L y=.int j/\op=.Mult/\t5 j/\w=.str (VI j.toNat ch)/\L'=L)\/∃a b,vw L x=.lst a/\vw L y=.lst b/\op=.Add/\eC fz (a++b) L=.ok w L':=by
 unfold aZ at h;generalize vw L x=p at h ⊢;generalize vw L y=q at h ⊢;split at h
 ·split at h
  ·exact .inl ⟨_,_,rfl,rfl,h⟩
  ·cases h
 ·unfold oS at h
  split at h
  ·split at h
   ·obtain⟨c,h⟩:=aC h;cases h;exact .inr (.inl ⟨_,_,rfl,rfl,rfl,c,rfl,rfl⟩)
   ·cases h
  ·split at h
   ·split at h
    ·obtain⟨c,h⟩:=aC h;cases h;exact .inr (.inr (.inl ⟨_,_,rfl,rfl,rfl,c,rfl,rfl⟩))
    ·cases h
   ·cases h
  ·cases h
 ·split at h
  ·split at h
   ·exact .inr (.inr (.inr ⟨_,_,rfl,rfl,rfl,h⟩))
   ·cases h
  ·cases h
 ·cases h
theorem Gi {op:Operator} {i j:Int} {t t':Nat} {w:T} {L':aa} (I:Inv X pins φ g L s) (h:oI op i j L=.ok w L'):Vq (model X.prog X.w) X.A (binaryOp op (.int i t) (.int j t')) (EP X pins φ g w L') F0 s:=by
 cases op with
 | Add =>
  cases h;exact add_int ((I.tok _).ep (.int _ _))
 | Sub =>
  cases h;exact sub_int ((I.tok _).ep (.int _ _))
 | Mult =>
  obtain⟨hc,h⟩:=aC h;cases h;refine mul_int ((I.tok _).ep (.int _ _)) ?_;rcases hc with⟨h1,h2⟩|⟨h1,h2⟩
  ·exact .of_left (intBits_le_64 h1 h2)
  ·exact .of_right (intBits_le_64 h1 h2)
 | FloorDiv =>
  obtain⟨hc,h⟩:=aC h;cases h;unfold yk at hc;exact floordiv_int (by omega) (by rw [Int.fdiv_eq_ediv_of_nonneg i (by omega)];exact(I.tok _).ep (.int _ _)) (.inl (PyProof.noPylong_small (by omega)))
 | Mod =>
  obtain⟨hc,h⟩:=aC h;cases h;exact mod_int' (by omega) (by rw [Int.fmod_eq_emod_of_nonneg i (by omega)];exact(I.tok _).ep (.int _ _))
 | Pow =>
  obtain⟨hc,h⟩:=aC h;cases h;exact pow_int_small hc.1 hc.2.1 hc.2.2 ((I.tok _).ep (.int _ _))
 | _ =>
  cases h
theorem Gj {c:Nat} {n:Int} {t t':Nat} (I:Inv X pins φ g L s) (hc:t5 n):Vq (model X.prog X.w) X.A (binaryOp .Mult (.str ⟨[c].toArray⟩ t) (.int n t')) (EP X pins φ g (.str (VI n.toNat c)) L) F0 s:=by
 unfold t5 at hc;have hl:(⟨[c].toArray⟩:Str).length=1:=rfl
 refine PySem.P.mul_str ?_ (fun a b=>?_) (fun a b=>?_) ?_
 ·have z1:¬ n < -(2 ^ 63:Int):=by omega
  have z2:¬ n≥2 ^ 63:=by omega
  rw [decide_eq_false z1,decide_eq_false z2];rfl
 ·rw [hl]
  have:(1:Int)<=(2 ^ 63 - 1) / n:=by
   rw [Int.le_ediv_iff_mul_le (by omega)];omega
  omega
 ·rw [hl]
  have e:(2:Nat) ^ 24=16777216:=by decide
  unfold Builtin.Str.tooLong Vz;exact decide_eq_false (by omega)
 ·by_cases a:n<1
  ·rw [if_pos a]
   refine⟨by decide,(I.tok _).ep ?_⟩;have e:n.toNat=0:=by omega
   rw [e];exact .str [] _ (by decide)
  ·rw [if_neg a]
   by_cases b:(n == 1 || (⟨[c].toArray⟩:Str).length == 0)=true
   ·rw [if_pos b]
    have e1:n=1:=by rw [hl] at b;simpa using b
    subst e1;exact I.ep (.str [c] _ (by show 1<=Vz;decide))
   ·rw [if_neg b]
    have e:(⟨(VI n.toNat (⟨[c].toArray⟩:Str).cps).foldl (· ++ ·) #[]⟩:Str)=⟨(VI n.toNat c).toArray⟩:=by
     show(⟨(VI n.toNat (#[c]:Array Nat)).foldl (fun x1 x2=>x1++x2) #[]⟩:Str)=_;rw [pd];simp
    rw [e];have z:(VI n.toNat c).length<=Vz:=by rw [WB];simp;omega
    exact⟨by show(VI n.toNat c).toArray.size<=_;simpa using z,(I.tok _).ep (.str _ _ z)⟩
theorem Gk {fz:Bool} {op:Operator}:yt X (binaryOp op) (aZ fz op):=fun {pins φ g L s x y w L' u v} I rx ry h=>by
 obtain⟨p,vx⟩:=I.view rx;obtain⟨q,vy⟩:=I.view ry;rcases Gh h with⟨i,j,e,e',h⟩|⟨a,b,e,e',rfl,hc,rfl,rfl⟩|⟨c,n,e,e',rfl,hc,rfl,rfl⟩|⟨_,_,e,e',rfl,hm⟩ <;> rw [e] at vx <;> rw [e'] at vy
 ·obtain⟨_,rfl⟩:=vx.iI;obtain⟨_,rfl⟩:=vy.iI;exact Gi I h
 ·obtain⟨_,rfl⟩:=vx.sI;obtain⟨_,rfl⟩:=vy.sI
  have e:(⟨a.toArray⟩:Str)++(⟨b.toArray⟩:Str)=⟨(a++b).toArray⟩:=by
   show(⟨a.toArray++b.toArray⟩:Str)=_;simp
  refine add_str (fun t' tk=>(I.tok _).ep ?_) (by show a.toArray.size+b.toArray.size<=_;simpa using (show a.length+b.length<=Vz from hc));rw [e];exact .str _ _ (by simpa using (show a.length+b.length<=Vz from hc))
 ·obtain⟨_,rfl⟩:=vx.sI;obtain⟨_,rfl⟩:=vy.iI;exact Gj I hc
 ·obtain⟨a,i1,n1,rfl,e1,r1,z1⟩:=I.lst vx
  obtain⟨b,i2,n2,rfl,e2,r2,z2⟩:=I.lst vy;have hz:=p7 hm
  have l1:=Vr r1;have l2:=Vr r2
  refine PySem.P.add_list e1 e2 ?_ (by simp at hz l1 l2;omega);have ea:i1++i2=(i1.toList++i2.toList).toArray:=by simp
  rw [ea];exact lh (t':=s.toks) I (r1.app r2) hm (fun b u e=>U1 _ e) (U9 _ rfl)
theorem yS {op:Operator}:yt X (inplaceOp op) (ag op):=fun I rx ry h=>by
 unfold ag at h;split at h
 ·obtain⟨_,rfl⟩:=rx.iI;obtain⟨_,rfl⟩:=ry.iI;cases h;exact iadd_int ((I.tok _).ep (.int _ _))
 ·obtain⟨_,rfl⟩:=rx.iI;obtain⟨_,rfl⟩:=ry.iI;cases h;exact isub_int ((I.tok _).ep (.int _ _))
 ·cases h
theorem Gm {x y:T} {k:Bool} {L':aa} (h:E9 x y L=.ok k L'):dat 8 (vw L x)=true/\dat 8 (vw L y)=true/\k=eqT (vw L x) (vw L y)/\L'=L:=by
 obtain⟨⟨a,b⟩,h⟩:=aC h;cases h;exact⟨a,b,rfl,rfl⟩
theorem qd {A:VZ} {x:T} {v:U8} (I:Inv X pins φ g L s) (hu:A.units+8<cLine) (hx:dat 8 x=true) (rx:RT g none x v) (hy:ys.all (dat 8)=true) (r:cG g ys us):∃e:U8->Bool,(∀w∈us,Xj A s w v (e w))/\(us.any e=ys.any fun y=>eqT y x)/\∀(i:Nat) y w,ys[i]?=some y->us[i]?=some w->e w=eqT y x:=by
 classical
 have uq:∀(i j:Nat) y z w,ys[i]?=some y->us[i]?=some w->ys[j]?=some z->us[j]?=some w->y=z:=fun i j y z w h1 h2 h3 h4 =>
  I.uniq 8 (U7.mp hy y (VN h1)) (U7.mp hy z (VN h3)) (xk r i y w h1 h2) (xk r j z w h3 h4)
 have hl:=Vr r
 let e:U8->Bool:=fun w=>decide (∃(i:Nat) (y:T),ys[i]?=some y/\us[i]?=some w/\eqT y x=true)
 have ev:∀(i:Nat) y w,ys[i]?=some y->us[i]?=some w->e w=eqT y x:=fun i y w h1 h2=>by
  cases q:eqT y x with
  | true=>exact decide_eq_true ⟨i,y,h1,h2,q⟩
  | false =>
   refine decide_eq_false ?_;rintro⟨j,z,h3,h4,h5⟩;rw [<- uq i j y z w h1 h2 h3 h4,q] at h5;cases h5
 refine⟨e,fun w hw=>?_,?_,ev⟩
 ·obtain⟨i,hi,rfl⟩:=WT hw
  have e1:=Ge9 (l:=ys) (i:=i) (by omega);have e2:=Ge9 (l:=us) (i:=i) hi
  rw [ev i _ _ e1 e2];exact(I.rc 8 (U7.mp hy _ (Vp (by omega))) hx hu (xk r i _ _ e1 e2) rx).2
 ·rw [WQ,WK,WK]
  constructor
  ·rintro⟨w,hw,h⟩
   obtain⟨i,hi,rfl⟩:=WT hw;exact⟨ys[i]'(by omega),Vp _,by rw [<- ev i _ _ (Ge9 (by omega)) (Ge9 hi)];exact h⟩
  ·rintro⟨y,hy,h⟩
   obtain⟨i,hi,rfl⟩:=WT hy;exact⟨us[i]'(by omega),Vp _,by rw [ev i _ _ (Ge9 hi) (Ge9 (by omega))];exact h⟩
theorem vW {ch:Nat} {b:Cs}:(!(Builtin.Str.occurrences ⟨b.toArray⟩ ⟨[ch].toArray⟩ 0 (⟨b.toArray⟩:Str).length 1).isEmpty)=decide (ch∈b):=by
 have:=StrLaws.found_one ⟨b.toArray⟩ ch;simpa using this
theorem yT {x:T} {v:U8} (r:RT g none x v):(v == Wr)=II x:=by cases r <;> rfl
end
section
variable {prog:Wh} {w:Xg} {A:VZ} {E:U8->Vc->Prop} {s:Vc}
theorem Cp (n d:Nat) (hd:d<=n) (o:Option Int):clip n d o<=n:=by
 cases o with
 | none=>exact hd
 | some v =>
  show(if v<0 then (v+(n:Int)).toNat else min v.toNat n)<=n;by_cases hv:v<0
  ·rw [if_pos hv];omega
  ·rw [if_neg hv];exact YY _ _
theorem vX (v:Int) (n d:Nat):(if v<0 then max (v+(n:Int)) 0 else min v (n:Int))=((clip n d (some v):Nat):Int):=by
 show(if v<0 then max (v+(n:Int)) 0 else min v (n:Int))=(((if v<0 then (v+(n:Int)).toNat else min v.toNat n):Nat):Int);by_cases hv:v<0
 ·simp only [if_pos hv];omega
 ·simp only [if_neg hv];omega
theorem uy (lo hi:Option Int) (n:Nat):Yj lo hi 1 (n:Int)=(((clip n 0 lo:Nat):Int),((clip n n hi:Nat):Int)):=by
 have h1:¬ ((1:Int)<0):=by omega
 unfold Yj;simp only [h1,if_false];refine Prod.ext ?_ ?_
 ·cases lo with
  | none=>rfl
  | some v=>exact vX v n 0
 ·cases hi with
  | none=>rfl
  | some v=>exact vX v n n
theorem uz (i j:Nat):Xs (i:Int) (j:Int) 1=j - i:=by
 unfold Xs;have h1:(1:Int) > 0:=by omega
 simp only [h1,if_true,Int.ediv_one];split <;> omega
theorem nj {v:U8} {o:Option Int} {Q:Option Int->Vc->Prop} (p:IsPart v o) (h:Q o s):Vq (model prog w) A (Builtin.Slice.slicePartIndex v) Q E s:=by
 cases p with
 | none=>exact slicePart_none h
 | int i t=>exact slicePart_int h
theorem gA {sl:VJ} {vl vu:U8} {lo hi:Option Int} {n:Nat} {Q:Int × Int × Nat->Vc->Prop} (hs:s.heap.IsSliceOf sl vl vu .none) (pl:IsPart vl lo) (pu:IsPart vu hi)
  (h:Q (((clip n 0 lo:Nat):Int),1,clip n n hi - clip n 0 lo) s):Vq (model prog w) A (Zh (.ref sl) (pure (n:Int))) Q E s:=by
 obtain⟨os,Cf,MC,JH⟩:=id hs;unfold Zh Builtin.Slice.sliceFields;refine U0 (U0 (wpAny_field Cf JH (x:=vl) rfl (U0 (wpAny_field Cf JH (x:=vu) rfl (U0 (wpAny_field Cf JH (x:=.none) rfl (U2 ?_)))))));refine U0 (slicePart_none ?_);show Vq _ _ (if ((1:Int) == 0)=true then _ else _) _ _ s
 rw [if_neg (by decide)];refine U0 (nj pl (U0 (nj pu (U0 (U2 ?_)))));show Vq _ _ (match Yj lo hi 1 (n:Int) with|(lo,hi)=>pure (lo,(1:Int),Xs lo hi 1)) _ _ s
 rw [uy lo hi n];show Vq _ _ (pure (((clip n 0 lo:Nat):Int),(1:Int),Xs ((clip n 0 lo:Nat):Int) ((clip n n hi:Nat):Int) 1)) _ _ s
 rw [uz];exact U2 h
theorem yU (xs:Array U8) (i k:Nat):((V5 k).filterMap fun(m:Nat)=>xs[((i:Int)+(m:Int) * 1).toNat]?).toArray=((xs.toList.drop i).take k).toArray:=by
 have e:(fun(m:Nat)=>xs[((i:Int)+(m:Int) * 1).toNat]?)=fun m=>xs[i+m]?:=by
  funext m;have:((i:Int)+(m:Int) * 1).toNat=i+m:=by omega
  rw [this]
 rw [e];have:=pick_run xs i k
 rw [List.filterMap_map] at this;have e2:((fun x=>xs[x]?) ∘ fun x=>i+x)=fun m=>xs[i+m]?:=rfl
 rw [e2] at this;rw [this]
theorem jV {t sl:VJ} {items:Array U8} {vl vu:U8} {lo hi:Option Int} {Q:U8->Vc->Prop} (ht:IsTup s.heap t items) (hs:s.heap.IsSliceOf sl vl vu .none) (pl:IsPart vl lo) (pu:IsPart vu hi)
  (hw:¬ (clip items.size 0 lo=0/\clip items.size items.size hi=items.size))
  (h:Q (.ref s.heap.objs.size) { s with heap:=s.heap.push { cls:=.type "tuple",data:=.seq ((items.toList.drop (clip items.size 0 lo)).take (clip items.size items.size hi - clip items.size 0 lo)).toArray } })
  (hsz:items.size<=Vz):Vq (model prog w) A (getItem (.ref t) (.ref sl)) Q E s:=by
 have vY:sizeOk (.seq ((items.toList.drop (clip items.size 0 lo)).take (clip items.size items.size hi - clip items.size 0 lo)).toArray):=by
  show((items.toList.drop (clip items.size 0 lo)).take (clip items.size items.size hi - clip items.size 0 lo)).toArray.size<=Vz;rw [Ww,VS,VM,Ws];omega
 have hj:clip items.size items.size hi<=items.size:=Cp _ _ (Vm _) hi;obtain⟨os,Cf,MC,JH⟩:=id hs;have BP:s.TypeIs (.ref sl) "slice":=⟨os,Cf,MC⟩
 unfold getItem
 try with_reducible refine wpAny_holding ?_
 first|refine U0 (U2 ?_)|skip
 refine U0 (wpAny_sequenceKey ht.typeIs (by decide) ?_);refine U0 (wpAny_callSpecial?_slot (name:=WC "__getitem__") ht.typeIs Wy
  (wpAny_call_entry Wy ht.typeIs entry_tuple_getitem ?_ (args_tuple_getitem _ _)))
 show Vq _ _ (Yb (.ref t) >>= _) _ _ s;refine U0 (tupleItemsOf_ ht ?_);refine U0 (wpAny_typeOf BP ?_);rw [if_pos (by decide)];refine U0 (gA hs pl pu ?_);have lU:¬ ((((clip items.size 0 lo:Nat):Int) == 0 && (1:Int) == 1 && (clip items.size items.size hi - clip items.size 0 lo) == items.size)=true):=by
  intro q;rw [Ve,Ve] at q;have q1:((clip items.size 0 lo:Nat):Int)=0:=eq_of_beq q.1.1
  have q2:clip items.size items.size hi - clip items.size 0 lo=items.size:=eq_of_beq q.2;exact hw ⟨by omega,by omega⟩
 show Vq _ _ (if (((clip items.size 0 lo:Nat):Int) == 0 && (1:Int) == 1 && (clip items.size items.size hi - clip items.size 0 lo) == items.size)=true then _ else _) _ _ s;rw [if_neg lU,yU]
 first
  | exact U0 (m:=Xw _) (wpAny_newObj_type (U2 ⟨_,rfl,U2 h⟩) vY)
  | exact U0 (m:=Xw _) (wpAny_newObj_type (U0 (U2 (U2 ⟨_,rfl,U2 h⟩))) vY)
  | exact U0 (U0 (m:=Xw _) (wpAny_newObj_type (U2 (U2 ⟨_,rfl,U2 h⟩)) vY))
  | exact U0 (U0 (m:=Xw _) (wpAny_newObj_type (U2 ⟨_,rfl,U2 h⟩) vY))
theorem jW {t sl:VJ} {items:Array U8} {vl vu:U8} {lo hi:Option Int} {Q:U8->Vc->Prop} (ht:IsTup s.heap t items) (hs:s.heap.IsSliceOf sl vl vu .none) (pl:IsPart vl lo) (pu:IsPart vu hi)
  (hw:clip items.size 0 lo=0/\clip items.size items.size hi=items.size) (h:Q (.ref t) s):Vq (model prog w) A (getItem (.ref t) (.ref sl)) Q E s:=by
 obtain⟨os,Cf,MC,JH⟩:=id hs;have BP:s.TypeIs (.ref sl) "slice":=⟨os,Cf,MC⟩
 unfold getItem
 try with_reducible refine wpAny_holding ?_
 first|refine U0 (U2 ?_)|skip
 refine U0 (wpAny_sequenceKey ht.typeIs (by decide) ?_);refine U0 (wpAny_callSpecial?_slot (name:=WC "__getitem__") ht.typeIs Wy
  (wpAny_call_entry Wy ht.typeIs entry_tuple_getitem ?_ (args_tuple_getitem _ _)))
 show Vq _ _ (Yb (.ref t) >>= _) _ _ s;refine U0 (tupleItemsOf_ ht ?_);refine U0 (wpAny_typeOf BP ?_);rw [if_pos (by decide)];refine U0 (gA hs pl pu ?_);have Nm:(((clip items.size 0 lo:Nat):Int) == 0 && (1:Int) == 1 && (clip items.size items.size hi - clip items.size 0 lo) == items.size)=true:=by
  rw [hw.1,hw.2];simp
 show Vq _ _ (if (((clip items.size 0 lo:Nat):Int) == 0 && (1:Int) == 1 && (clip items.size items.size hi - clip items.size 0 lo) == items.size)=true then _ else _) _ _ s;rw [if_pos Nm];unfold Builtin.Tuple.tupleIsExact;refine U0 (U0 (wpAny_typeOf ht.typeIs (U2 ?_)));rw [if_pos (by decide)];refine U0 (wpAny_rule ?_)
 first
  | exact U2 ⟨_,rfl,U2 h⟩
  | exact U0 (U2 (U2 ⟨_,rfl,U2 h⟩))
end
theorem qe (lo hi:Option Int) (n:Nat):(sliceBounds lo hi none n).1=((clip n 0 lo:Nat):Int)/\(sliceBounds lo hi none n).2.1=((clip n n hi:Nat):Int)/\(sliceBounds lo hi none n).2.2=1:=by
 refine⟨?_,?_,rfl⟩
 ·cases lo with
  | none=>simp [sliceBounds,clip]
  | some i =>
   simp only [sliceBounds,clip,aad,show(1:Int) > 0 by decide,if_true];by_cases h:i<0
   ·simp only [h,if_true] <;> omega
   ·simp only [h,if_false] <;> omega
 ·cases hi with
  | none=>simp [sliceBounds,clip]
  | some i =>
   simp only [sliceBounds,clip,aad,show(1:Int) > 0 by decide,if_true];by_cases h:i<0
   ·simp only [h,if_true] <;> omega
   ·simp only [h,if_false] <;> omega
theorem oG (its:List U8) (lo hi:Option Int):slicePick its.toArray lo hi none=((its.drop (clip its.length 0 lo)).take (clip its.length its.length hi - clip its.length 0 lo)).toArray:=by
 obtain⟨h1,h2,h3⟩:=qe lo hi its.toArray.size;unfold slicePick;rw [h1,h2,h3];simp only [sliceRange_one,pick_run,Ww] <;> rfl
section
variable {X:Cx} {pins:bf} {φ:Fr} {g:G} {L:aa} {s:Vc} {xs ys:List T} {us vs:List U8} {e a b:Expr} {m ma mb:SE} {pos p2:Pos}
theorem nq {n:Nat} {i:Int} {j:Nat} (h:place n i=some j):seqIndex? i n=some j/\j<n/\-(n:Int)<=i/\i<n/\((0<=i/\i.toNat=j)\/(i<0/\(i+n).toNat=j)):=by
 unfold place at h;by_cases h0:0<=i
 ·rw [if_pos h0] at h
  by_cases h1:i<n
  ·rw [if_pos h1] at h
   cases h;exact⟨PySem.StrLaws.seqIndex_nonneg h0 h1,by omega,by omega,h1,.inl ⟨h0,rfl⟩⟩
  ·rw [if_neg h1] at h;cases h
 ·rw [if_neg h0] at h
  by_cases h1:-(n:Int)<=i
  ·rw [if_pos h1] at h
   cases h;exact⟨seqIndex_neg (by omega) h1,by omega,h1,by omega,.inr ⟨by omega,rfl⟩⟩
  ·rw [if_neg h1] at h;cases h
noncomputable def xr:Expr->Bool
 | .Slice ..=>false
 | _=>true
theorem yV (h:xr b=true):∀o i,subscripted b false o i=operate [o,i] (getItem o i):=fun o i=>by
 cases b <;> first|rfl|cases h
theorem uA:(Vz:Nat)<2 ^ 63:=by rw [WB];decide
theorem iW {o:Option T} {w:T} {L':aa} (h:lift o L=.ok w L'):o=some w/\L'=L:=by
 cases o with
 | none=>cases h
 | some t=>cases h;exact⟨rfl,rfl⟩
noncomputable def PO (X:Cx) (e:Option Expr) (m:Option SE):Prop:=∀{pins:bf} {φ:Fr} {g:G} {L:aa} {s:Vc} {o:Option Int} {L':aa},Inv X pins φ g L s->Fd m φ L=.ok o L'->Vq (model X.prog X.w) X.A (evalPart e X.env) (fun u s'=>∃g',Le g g'/\Inv X pins φ g' L' s'/\IsPart u o) F0 s
theorem Cq:PO X none none:=fun I h=>by cases h;rw [evalPart_none];exact U2 ⟨_,.refl _,I,.none⟩
theorem Cr (h:PE X e m):PO X (some e) (some m):=fun I q=>by
 obtain⟨t,L1,e1,q⟩:=R.of q;cases t <;> first|cases q|skip
 rw [evalPart_some];exact thn (h I e1) fun u s1 ⟨g1,l1,I1,r1⟩=>by obtain⟨_,rfl⟩:=r1.iI;exact⟨g1,l1,I1,.int _ _⟩
theorem cG.drop (h:cG g xs us):∀n,cG g (xs.drop n) (us.drop n):=by
 induction h with
 | nil=>intro n;simp;exact .nil
 | cons a b ih=>intro n;cases n with
  | zero=>exact .cons a b
  | succ n=>simpa using ih n
theorem cG.take (h:cG g xs us):∀n,cG g (xs.take n) (us.take n):=by
 induction h with
 | nil=>intro n;simp;exact .nil
 | cons a b ih=>intro n;cases n with
  | zero=>exact .nil
  | succ n=>simp;exact .cons a (ih n)
theorem Cu {α:Type} (xs:List α) (lo hi:Option Int):(cut xs lo hi).length<=xs.length:=by
 unfold cut;rw [VS,VM];omega
theorem part_of {v:U8} {o:Option Int} (p:IsPart v o):∃q:Option (Int × Tok),v=partValue q/\q.map (·.1)=o:=by
 cases p with
 | none=>exact⟨none,rfl,rfl⟩
 | int i t=>exact⟨some (i,t),rfl,rfl⟩
theorem Gn {fz:Bool} {x w:T} {u vl vu:U8} {lo hi:Option Int} {sl:VJ} {L':aa} (I:Inv X pins φ g L s) (rx:RT g none x u) (hs:s.heap.IsSliceOf sl vl vu .none) (pl:IsPart vl lo) (pu:IsPart vu hi) (h:jd fz x lo hi L=.ok w L') :
  ∃T id,typeLookup (.type T) "__getitem__"=pure (some (.builtin id))/\s.TypeIs u T/\Vq (model X.prog X.w) X.A (getItem u (.ref sl)) (EP X pins φ g w L') F0 s:=by
 obtain⟨p,vx⟩:=I.view rx;unfold jd at h;generalize vw L x=x' at h vx;cases x' with
 | str z =>
  match lo,hi,pl,pu,h with
  | some i,some j,pl,pu,h =>
   obtain⟨⟨h0,h1,h2⟩,h⟩:=aC h;cases h;cases vx with
   | str _ t hz =>
    obtain⟨ql,rfl,el⟩:=part_of pl;obtain⟨qu,rfl,eu⟩:=part_of pu;refine⟨"str",_,F.slot_str_getitem.lookup,typeIs_str _ _ _,wpAny_getItem_str_slice (l:=ql) (u:=qu) (st:=none) hs rfl ?_⟩;have e:sliceMade ⟨z.toArray⟩ t ql qu none=if ((1:Int) == 1 && (Zc (some i) (some j) 1 (⟨z.toArray⟩:Str).length).length == (⟨z.toArray⟩:Str).length)=true then .val (.str ⟨z.toArray⟩ t) else .str ⟨((Zc (some i) (some j) 1 (⟨z.toArray⟩:Str).length).filterMap ((⟨z.toArray⟩:Str).cps[·]?)).toArray⟩:=by
     unfold sliceMade slicePicked;rw [el,eu];rfl
    rw [e];have hlen:(⟨z.toArray⟩:Str).length=z.length:=by show z.toArray.size=_;simp
    have es:aa4 ⟨z.toArray⟩ (some i) (some j)=⟨((z.drop i.toNat).take (j - i).toNat).toArray⟩:=by
     have e:=eq_of_beq (slice_closesL (x:=⟨z.toArray⟩) h0 h1 (by rw [hlen];exact h2));have e2:(aa4 ⟨z.toArray⟩ (some i) (some j)).cps.toList=(z.drop i.toNat).take (j - i).toNat:=by rw [e]
     have e3:∀z:Str,z=⟨z.cps.toList.toArray⟩:=fun z=>by cases z;simp
     rw [e3 (aa4 ⟨z.toArray⟩ (some i) (some j)),e2]
    have MD:((z.drop i.toNat).take (j - i).toNat).length<=Vz:=by rw [VS,VM];omega
    exact post_val_or_str ⟨Vt (Txt.slice_le _ _ _) (by rw [hlen];exact hz),fun t' k=>(I.tok _).ep (by show RT g none _ (YU (aa4 ⟨z.toArray⟩ (some i) (some j)) t');rw [es];exact .str _ _ MD)⟩
 | tup xs =>
  cases h;obtain⟨a,its,rfl,ht,r,hz⟩:=I.tupP vx;have hlen:its.size=xs.length:=by have:=Vr r;simp at this;omega
  refine⟨"tuple",_,Wy.lookup,ht.typeIs,?_⟩;by_cases hw:clip its.size 0 lo=0/\clip its.size its.size hi=its.size
  ·refine jW ht hs pl pu hw (I.ep ?_)
   have e:cut xs lo hi=xs:=by
    unfold cut;rw [hlen] at hw;rw [hw.1,hw.2];simp
   rw [e];exact vx.tI.1
  ·refine jV ht hs pl pu hw ?_ (by rw [hlen];exact hz)
   rw [hlen];exact yR (w:=.b7) (t':=s.toks) I ((r.drop _).take _) (Vt (Cu xs lo hi) hz) (fun b u e=>U1 _ e) (Vm _) (U9 _ rfl)
 | lst xs =>
  obtain⟨a,its,n,rfl,e,r,hz⟩:=I.lst vx;have hlen:its.size=xs.length:=by have:=Vr r;simp at this;omega
  refine⟨"list",_,slot_list_getitem.lookup,(ah e).typeIs,?_⟩;refine wpAny_getItem_list_slice (ah e) hs pl pu .none (by simp) ?_ (by omega);rw [show its=its.toList.toArray by simp,oG,Ws,hlen];exact lh (t':=s.toks) I ((r.drop _).take _) h (fun b u e=>U1 _ e) (U9 _ rfl)
 | _=>cases h
theorem Gp {fz:Bool} {lo hi:Option Expr} {ml mh:Option SE} (he:PE X e m) (hl:PO X lo ml) (hh:PO X hi mh):PE X (.Subscript e (.Slice lo hi none p2) pos) (sl fz m ml mh):=fun I h=>by
 obtain⟨x,L1,e1,h⟩:=R.of h;obtain⟨l,L2,e2,h⟩:=R.of h;obtain⟨r,L3,e3,h⟩:=R.of h;refine Subscript_ (thn (he I e1) fun v s1 ⟨g1,l1,I1,r1⟩=>wpAny_Slice (thn (hl I1 e2) fun vl s2 ⟨g2,l2,I2,pl⟩=>thn (hh I2 e3) fun vu s3 ⟨g3,l3,I3,pu⟩=>?_));rw [evalPart_none];refine U2 ?_;have I4:=I3.kept (h':=s3.heap.push { cls:=.type "slice",data:=.fields #[vl,vu,.none] }) (t':=s3.toks) fun b ob q=>U1 _ q
 obtain⟨T,id,hT,ht,hg⟩:=Gn I4 (r1.le (l2.trans l3)) (Heap.IsSliceOf.new ..) pl pu h;exact tail_any (ops:=[.ref s3.heap.objs.size,v]) ht hT (thn hg fun _ _ z=>z.le ((l1.trans l2).trans l3)) (by with_unfolding_all rfl)
end
section
variable {X:Cx} {pins:bf} {φ:Fr} {g:G} {L L':aa} {s:Vc} {xs ys:List T} {us vs:List U8} {e o:Expr} {es:List Expr} {m:SE} {ms:List SE} {pos p apos:Pos} {x:Str} {F:Fn} {t w:T} {u v:U8}
theorem Gq (hc:∃f,bootBuiltins x=some f/\dS X f F/\((∃id,f=.builtin id)\/∃T,f=.type T)) (hg:Gl X x) (hm:X.mg x=none) (hn:x≠"__name__") (JE:(x == ("__debug__":Str))=false) (ha:PA X (e::es) (iS ms)) (hs:(e::es).all bh=true):PE X (.Call (.Name x p) (e::es) [] pos) (ae F ms):=fun I h=>by
 obtain⟨ts,L1,e1,h⟩:=R.of h;obtain⟨f,hv,hF,hk⟩:=hc;rw [VU,Ve] at hs;refine wpAny_Call_Name_kw (gg I hg hm hv ?_ hn JE);have A:=thn (E:=F0) (Q':=fun us s1=>Vq (model X.prog X.w) X.A (call f us) (EP X _ _ _ _ _) F0 s1) (ha pos I e1) fun us s1 ⟨g1,l1,I1,r1⟩=>thn (hF I1 r1 h) fun _ _ z=>z.le l1
 rcases hk with⟨id,rfl⟩|⟨T,rfl⟩
 ·exact callWith_builtin1 A (az hs.1) (bR hs.2)
 ·exact callWith_type1 A (az hs.1) (bR hs.2)
theorem bM (r:cG g [t] us):∃u,us=[u]/\RT g none t u:=by
 cases r with|cons a b=>cases b;exact⟨_,rfl,a⟩
theorem lr {t1 t2:T} (r:cG g [t1,t2] us):∃u1 u2,us=[u1,u2]/\RT g none t1 u1/\RT g none t2 u2:=by
 cases r with|cons a b=>obtain⟨u,rfl,c⟩:=bM b;exact⟨_,_,rfl,a,c⟩
theorem str_len {z:Cs}:(⟨z.toArray⟩:Str).length=z.length:=by show z.toArray.size=_;simp
theorem yW:dS X (.builtin "len") bH:=fun {_ _ _ _ _ xs _ _ _} I r h=>by
 have hn:=uA;unfold bH at h;split at h
 ·obtain⟨u,rfl,ru⟩:=bM r
  obtain⟨p,v⟩:=I.view ru;split at h
  ·rename_i ev
   cases h;rw [ev] at v;obtain⟨t,rfl,hz⟩:=v.ju;refine len_str (by rw [str_len];omega) ?_;rw [str_len];exact(I.tok _).ep (.int _ _)
  ·rename_i ev
   cases h;rw [ev] at v;obtain⟨a,its,rfl,e,rr,hz⟩:=I.tupP v;have hl:=Vr rr
   exact len_tuple e (by simp at hl;omega) (by rw [show its.size=_ from by simpa using hl.symm];exact(I.tok _).ep (.int _ _))
  ·rename_i ev
   cases h;rw [ev] at v;obtain⟨a,its,n,rfl,e,rr,hz⟩:=I.lst v;have hl:=Vr rr
   exact Calls.call_len_list (ah e) (by simp at hl;omega) (by rw [show its.size=_ from by simpa using hl.symm];exact(I.tok _).ep (.int _ _))
  ·cases h
 ·cases h
theorem Inv.seq {q:Option (VJ × VJ)} (I:Inv X pins φ g L s) (r:RT g q t u) (h:t=.lst xs\/t=.tup xs):∃a its o n T,u=.ref a/\s.heap.get? a=some o/\o.cls=.type T/\o.data=.seq its n/\(T="list"\/T="tuple")/\cG g xs its.toList/\its.size=xs.length/\xs.length<=Vz:=by
 rcases h with rfl|rfl
 ·obtain⟨a,its,n,rfl,e,rr,hz⟩:=I.lst r
  exact⟨a,its,_,n,_,rfl,e,rfl,rfl,.inl rfl,rr,by simpa using (Vr rr).symm,hz⟩
 ·obtain⟨a,its,rfl,⟨o,ho,hc,n,hd⟩,rr,hz⟩:=I.tupP r
  exact⟨a,its,o,n,_,rfl,ho,hc,hd,.inr rfl,rr,by simpa using (Vr rr).symm,hz⟩
theorem vZ {fz:Bool} (I:Inv X pins φ g L s) (ru:RT g none t u) (ht:vw L t=.lst xs\/vw L t=.tup xs) (h:eC fz xs L=.ok w L'):Vq (model X.prog X.w) X.A (call (.type "list") [u]) (EP X pins φ g w L') F0 s:=by
 obtain⟨p,v⟩:=I.view ru;obtain⟨a,its,o,n,T,rfl,ho,hc,hd,hT,rr,hl,hz⟩:=I.seq v ht;exact call_list_seq a hT ho hc hd (fun h' c' kp e=>lh (t':=s.toks) (n:=c') I rr h kp (by simpa using e)) (by omega)
theorem yX:dS X (.type "tuple") iz:=fun {_ _ _ _ s _ _ _ _} I r h=>by
 unfold iz at h;split at h
 ·obtain⟨u,rfl,ru⟩:=bM r
  obtain⟨p,v⟩:=I.view ru;split at h
  ·rename_i ev
   rw [ev] at v;cases h;obtain⟨a,its,rfl,e,rr,hz⟩:=I.tupP v;exact call_tuple_same e (I.ep v.tI.1)
  ·rename_i ev
   rw [ev] at v;cases h;obtain⟨a,its,n,rfl,e,rr,hz⟩:=I.lst v;have hl:=Vr rr
   refine call_tuple_list (ah e) (fun h' kp=>?_) (by simp at hl;omega);have J:=I.kept (t':=s.toks) kp
   exact yR (w:=.b7) (t':=s.toks) (n:=0) J rr hz (fun b o e=>U1 _ e) (Vm _) (by simpa using U9 h' (o:={ cls:=.type "tuple",data:=.seq its }) rfl)
  ·cases h
 ·cases h
theorem v5 {α:Type} {f:T->Option α}:∀{ys:List T} {bs:List α},ys.mapM f=some bs->ys.length=bs.length/\∀(i:Nat) y,ys[i]?=some y->∃b,bs[i]?=some b/\f y=some b
 | [],bs,h=>by simp at h;subst h;exact⟨rfl,fun i y e=>by simp at e⟩
 | y::ys,bs,h=>by
  rw [W9] at h;cases e1:f y with
  | none=>rw [e1] at h;cases h
  | some b =>
   rw [e1] at h;cases e2:ys.mapM f with
   | none=>rw [e2] at h;cases h
   | some r =>
    rw [e2] at h;have h:some (b::r)=some bs:=h
    cases h;obtain⟨h1,h2⟩:=v5 e2;refine⟨by simp [h1],fun i z e=>?_⟩;cases i with
    | zero=>cases e;exact⟨b,rfl,e1⟩
    | succ i=>exact h2 i z (by simpa using e)
theorem yY {α:Type} {f:T->Option α} {k:List α->T} (I:Inv X pins φ g L s) (r:cG g xs us) (h:Fe f k xs L=.ok w L'):∃a its n bs,us=[.ref a]/\L'=L/\w=k bs/\s.heap.get? a=some { cls:=.type "list",data:=.seq its n }/\its.size=bs.length/\a<s.heap.objs.size /\
  ∀(i:Nat) v,its[i]?=some v->∃b y,bs[i]?=some b/\f y=some b/\RT g none y v:=by
 unfold Fe at h;split at h
 ·obtain⟨u,rfl,ru⟩:=bM r
  obtain⟨p,v⟩:=I.view ru;split at h
  ·rename_i ev
   rw [ev] at v;obtain⟨q,rfl⟩:=iW h;obtain⟨bs,q2,rfl⟩:=Vj.mp q;obtain⟨h1,h2⟩:=v5 q2;obtain⟨a,its,n,rfl,e,rr,hz⟩:=I.lst v;have hl:=Vr rr
   refine⟨a,its,n,bs,rfl,rfl,rfl,e,by simp at hl;omega,Vu e,fun i v hv=>?_⟩;have hi:=(Yc.mp hv).1
   have e1:=Ge9 (l:=_) (i:=i) (show i<_ from by rw [hl];simpa using hi);obtain⟨b,b1,b2⟩:=h2 i _ e1;exact⟨b,_,b1,b2,xk rr i _ v e1 (by simpa using hv)⟩
  ·cases h
 ·cases h
theorem all_range (bs:List Bool):((V5 bs.length).all fun i=>(bs[i]?).getD true)=bs.all id:=by
 rw [WQ,U7,U7];constructor
 ·intro h b hb
  obtain⟨i,hi,rfl⟩:=WT hb;have z:=h i (V3.mpr hi)
  simpa [hi] using z
 ·intro h i hi
  have hi':=V3.mp hi;have z:=h _ (Vp hi')
  simpa [hi'] using z
theorem any_range (bs:List Bool):((V5 bs.length).any fun i=>(bs[i]?).getD true)=bs.any id:=by
 rw [WQ,WK,WK];constructor
 ·rintro⟨i,hi,h⟩
  have hi':=V3.mp hi;exact⟨bs[i],Vp hi',by simpa [hi'] using h⟩
 ·rintro⟨b,hb,h⟩
  obtain⟨i,hi,rfl⟩:=WT hb;exact⟨i,V3.mpr hi,by simpa [hi] using h⟩
theorem Inv.over {h':Heap} {tk:Nat} {o:Obj} (I:Inv X pins φ g L s) (hk:∀b ob,b∉[s.heap.objs.size]->(s.heap.push o).get? b=some ob->h'.get? b=some ob):Inv X pins φ g L { s with heap:=h',toks:=tk } :=
 I.kept fun b ob e=>hk b ob (fun hm=>by rw [Vx.mp hm] at e;exact WG _ (Vu e)) (U1 _ e)
theorem yZ {y:T} {b:Bool} {v:U8} (h:IJ y=some b) (r:RT g none y v):v=.bool b:=by
 cases r <;> cases h;rfl
theorem Nn {y:T} {b:Int} {v:U8} (h:Rt y=some b) (r:RT g none y v):∃t,v=.int b t:=by
 cases r <;> cases h;exact⟨_,rfl⟩
theorem Gr {y:T} {b:Cs} {v:U8} (h:IK y=some b) (r:RT g none y v):∃t,v=.str ⟨b.toArray⟩ t/\b.length<=Vz:=by
 cases y <;> cases h;exact r.ju
theorem y0:dS X (.builtin "all") rH:=fun {_ _ _ _ s _ _ _ _} I r h=>by
 obtain⟨a,its,n,bs,rfl,rfl,rfl,e,hl,bQ,hi⟩:=yY I r h;refine call_all_walk (wpAny_pyIter_list (ah e) ?_);refine⟨s.heap.objs.size,[s.heap.objs.size,a],[s.heap.objs.size],its.size,_,_,fun i=>(bs[i]?).getD true,rfl,Walks.list (A:=X.A.in1) I.ok.hd _ a (VB bQ) its,
  ⟨⟨_,U9 _ rfl,rfl,rfl⟩,(ah e).push _⟩,fun i v s' Q' E' hP hQ=>?_,fun h' tk hk=>?_⟩
 ·obtain⟨b,y,b1,b2,b3⟩:=hi i v hP
  rw [yZ b2 b3];simp only [b1,Xi] at hQ;exact wpAny_truthy_bool hQ
 ·rw [hl,all_range]
  exact(I.over hk).ep (.bl _)
theorem zc:dS X (.builtin "any") xi:=fun {_ _ _ _ s _ _ _ _} I r h=>by
 obtain⟨a,its,n,bs,rfl,rfl,rfl,e,hl,bQ,hi⟩:=yY I r h;refine call_any_walk (wpAny_pyIter_list (ah e) ?_);refine⟨s.heap.objs.size,[s.heap.objs.size,a],[s.heap.objs.size],its.size,_,_,fun i=>(bs[i]?).getD true,rfl,Walks.list (A:=X.A.in1) I.ok.hd _ a (VB bQ) its,
  ⟨⟨_,U9 _ rfl,rfl,rfl⟩,(ah e).push _⟩,fun i v s' Q' E' hP hQ=>?_,fun h' tk hk=>?_⟩
 ·obtain⟨b,y,b1,b2,b3⟩:=hi i v hP
  rw [yZ b2 b3];simp only [b1,Xi] at hQ;exact wpAny_truthy_bool hQ
 ·rw [hl,any_range]
  exact(I.over hk).ep (.bl _)
theorem Cv (l:List Int):∀j,preSum (fun i=>l.getD i 0) j=(l.take j).sum
 | 0=>by simp [preSum]
 | j+1=>by
  rw [preSum,Cv l j];by_cases h:j<l.length
  ·rw [aaH,List.sum_append,Gd9,Ge9 h];simp
  ·rw [V2 (by omega),V2 (by omega),Gd9,W2 (by omega)];simp
theorem zd:dS X (.type "str") t9:=fun I r h=>by
 unfold t9 at h;split at h
 ·obtain⟨⟨h1,h2⟩,h⟩:=aC h
  cases h;obtain⟨u,rfl,ru⟩:=bM r;obtain⟨_,rfl⟩:=ru.iI;exact PySem.P.str_of_int h1 ((I.tok _).ep (.str _ _ h2))
 ·cases h
theorem zf:dS X (.type "int") xj:=fun I r h=>by
 unfold xj at h;split at h
 ·obtain⟨u,rfl,ru⟩:=bM r
  obtain⟨t,rfl,hz⟩:=ru.ju;split at h
  ·obtain⟨h1,h⟩:=aC h
   cases h;exact PySem.W.KIN.call_text (by assumption) (by rw [str_len];exact h1) ((I.tok _).ep (.int _ _))
  ·cases h
 ·cases h
theorem Np {n:String} {x w:T} {L':aa} (h:PR L n x=.ok w L'):L'=L/\((n="bool"/\∃b,x=.bl b/\w=.bl true)\/(n="bool"/\∃i,x=.int i/\w=.bl false)\/(n="int"/\∃b,x=.bl b/\w=.bl true)\/(n="int"/\∃i,x=.int i/\w=.bl true)):=by
 have key:∀{b k:Bool},(if n="bool" then R.ok (T.bl b) L else if n="int" then .ok (.bl k) L else .bad)=.ok w L'->L'=L/\((n="bool"/\w=.bl b)\/(n="int"/\w=.bl k)):=fun h=>by
  split at h
  ·cases h;exact⟨rfl,.inl ⟨‹_›,rfl⟩⟩
  ·split at h
   ·cases h;exact⟨rfl,.inr ⟨‹_›,rfl⟩⟩
   ·cases h
 cases x with
 | bl b =>
  obtain⟨e,⟨a,c⟩|⟨a,c⟩⟩:=key h
  ·exact⟨e,.inl ⟨a,b,rfl,c⟩⟩
  ·exact⟨e,.inr (.inr (.inl ⟨a,b,rfl,c⟩))⟩
 | int i =>
  obtain⟨e,⟨a,c⟩|⟨a,c⟩⟩:=key h
  ·exact⟨e,.inr (.inl ⟨a,i,rfl,c⟩)⟩
  ·exact⟨e,.inr (.inr (.inr ⟨a,i,rfl,c⟩))⟩
 | _=>cases h
noncomputable def zi (X:Cx) (id:String) (m:T->Fn):Prop:=∀{pins:bf} {φ:Fr} {g:G} {L:aa} {s:Vc} {x:T} {xs:List T} {w:T} {L':aa} {v:U8} {us:List U8},Inv X pins φ g L s->RT g none x v->cG g xs us->m x xs L=.ok w L'->Vq (model X.prog X.w) X.A (call (.builtin id) (v::us)) (EP X pins φ g w L') F0 s
noncomputable def Ty.nm:Ty->String
 | .s=>"str"|.l=>"list"|.t=>"tuple"|.d=>"dict"
theorem Gs {n:Ty} (I:Inv X pins φ g L s) (r:RT g none t u) (h:Ee L t=some n):s.TypeIs u n.nm/\(∀a,u=.ref a->∃o,s.heap.get? a=some o/\o.dict=none):=by
 obtain⟨p,v⟩:=I.view r;unfold Ee at h;split at h <;> first|cases h|skip
 all_goals (rename_i ev;rw [ev] at v)
 ·obtain⟨t,rfl,_⟩:=v.ju
  exact⟨typeIs_str _ _ _,fun a e=>by cases e⟩
 ·obtain⟨a,its,n,rfl,e,_⟩:=I.lst v
  exact⟨⟨_,e,rfl⟩,fun b q=>by cases q;exact⟨_,e,rfl⟩⟩
 ·obtain⟨_,_,_,_,_,rfl,hk,hc,_⟩:=v.tI
  exact⟨⟨_,I.kn hk,hc.1⟩,fun b q=>by cases q;exact⟨_,I.kn hk,hc.2⟩⟩
 ·cases v with
  | aU _ hk hx=>exact⟨⟨_,I.kn hk,hx.1⟩,fun b q=>by cases q;exact⟨_,I.kn hk,hx.2.1⟩⟩
noncomputable def Gu (X:Cx) (x:Str) (y:Ty) (F:T->Fn):Prop:=∃id,PlainAttrs y.nm/\Slot y.nm x id/\typeOf (.builtin id)=pure (.type "method_descriptor")/\zi X id F
theorem Cw {f:Ty->Option (T->Fn)} (hM:∀T F,f T=some F->Gu X x T F) (ho:PE X o m) (ha:PA X es (iS ms)) (h0:es=[]->ms=[]) (hs:es.all bh=true) (hl:es.length<30) (hb:okBase o=true) (ni:(apos.endLine == pos.line)=true) :
  PE X (.Call (.Attribute o x apos) es [] pos) (aN f m ms):=fun I h=>by
 obtain⟨t,L1,e1,h⟩:=R.of h;cases ef:(Ee L1 t).bind f with
 | none=>simp only [ef] at h;cases h
 | some F =>
  simp only [ef] at h;obtain⟨T,hT,hF⟩:=W7.mp ef;obtain⟨ts,L2,e2,h⟩:=R.of h;obtain⟨id,pa,slot,IU,hm⟩:=hM T F hF;refine wpAny_Call_method_late (base_ok hb) (uw hs hl) ni rfl (thn (ho I e1) fun v s1 ⟨g1,l1,I1,r1⟩=>?_);obtain⟨h1,h2⟩:=Gs I1 r1 hT;refine⟨T.nm,id,pa,slot,IU,h1,h2,?_⟩;refine aal (bR hs) ?_;cases es with
  | nil =>
   rw [h0 rfl] at e2;cases e2;exact aaK (thn (hm I1 r1 .nil h) fun _ _ z=>z.le l1)
  | cons e es =>
   rw [VU,Ve] at hs;have A:=ha pos I1 e2
   rw [az hs.1] at A ⊢;exact Calls.evalArgs_plain (thn A fun us s2 ⟨g2,l2,I2,r2⟩=>thn (hm I2 (r1.le l2) r2 h) fun _ _ z=>z.le (l1.trans l2))
theorem Inv.rP {n:Nat} {its:Array U8} {cnt:Nat} {a:VJ} {f:Array U8->Array U8} {t':Nat} (I:Inv X pins φ g L s) (hc:at_ L n=some (.lst xs)) (ru:RT g none (.ref n) (.ref a)) (e:s.heap.get? a=some { cls:=.type "list",data:=.seq its cnt }) (r:cG g ys (f its).toList) (hz:ys.length<=Vz) :
  EP X pins φ g .b7 (put L n (.lst ys)) .none { s with heap:=s.heap.update a (Wx f),toks:=t' }:=by
 obtain⟨p,hp,rc⟩:=I.rel.cells n _ hc;cases ru with
 | ref hq =>
  rw [hp] at hq;cases hq;generalize v7:(some p:Option (VJ × VJ))=pp at rc;generalize Nq:W5 p.1=pa at rc;cases rc with
  | lst ht hk UH hl hi =>
   cases Nq;subst v7;have q:=aa1 e f
   obtain⟨n',hn'⟩:∃n',(s.heap.update p.1 (Wx f)).get? p.1=some { cls:=.type "list",data:=.seq (f its) n' }:=⟨_,q⟩;have hH:∃o,g.H p.1=some (false,o):=by
    rcases hk with hk|⟨z,_⟩
    ·exact⟨_,hk⟩
    ·cases z
   obtain⟨o,hH⟩:=hH;have l:=Le.set (o:={ cls:=.type "list",data:=.seq (f its) n' }) hH
   refine⟨_,l,I.set (t':=t') hp (.inl rfl) hH (fun b v hb hv=>(VL s.heap (Wx f) (WA hb)).trans hv) hn' ?_,.b7⟩;have:=r.lst (o:=default) (g1:=g.set p.1 { cls:=.type "list",data:=.seq (f its) n' }) (n:=n') l ht (.inl (by rw [show(f its).toList.toArray=f its by simp];exact ar)) hz
   exact this
theorem Inv.v8 {n:Nat} (I:Inv X pins φ g L s) (rx:RT g none (.ref n) v) (ea:at_ L n=some (.lst ys)):∃a its cnt,v=.ref a/\s.heap.get? a=some { cls:=.type "list",data:=.seq its cnt }/\cG g ys its.toList/\its.size=ys.length/\ys.length<=Vz:=by
 obtain⟨p,v⟩:=I.view rx;rw [show vw L (.ref n)=.lst ys by show(at_ L n).getD T.b7=_;rw [ea];rfl] at v;obtain⟨a,its,cnt,rfl,e,rr,hz⟩:=I.lst v;exact⟨a,its,cnt,rfl,e,rr,by simpa using (Vr rr).symm,hz⟩
theorem Gv:zi X "list.append" B2:=fun I rx rv h=>by
 unfold B2 at h;split at h
 ·split at h
  ·rename_i n t _ ys ea
   obtain⟨hz,h⟩:=aC h;cases h;obtain⟨u,rfl,ru⟩:=bM rv;obtain⟨a,its,cnt,rfl,e,rr,hl,_⟩:=I.v8 rx ea;have bQ:ys.length<Vz:=hz
   refine call_meets Y2 ⟨_,e,rfl⟩ F.entry_list_append (F.args_list_append_2 _ _) (PySem.list_append a its cnt u (by omega)) ⟨e,?_⟩;exact I.rP ea rx e (by simpa using rr.app (.cons ru .nil)) (by simp;omega)
  ·cases h
 ·cases h
theorem nu (l:VJ) (xs:Array U8) (n:Nat) (b:VJ) (ys:Array U8) (k:Nat) (dd:Option VJ) (sl:Array (Option U8)) (pe:¬(!xs.isEmpty && Xx (xs.size+ys.size))=true) (h1:xs.size<=Vz) (h2:xs.size+ys.size<=Vz+1) :
  Meets (Builtin.«list.extend» ⟨[.ref l,.ref b],[]⟩)
   (fun _ R st=>st.heap.get? l=some { cls:=.type "list",dict:=none,data:=.seq xs n,slots:=#[] }/\st.heap.get? b=some { cls:=.type "tuple",dict:=dd,data:=.seq ys k,slots:=sl } /\
    R (.ok (.ret Wr)) { st with heap:=st.heap.update l (Wx fun x=>x++ys),toks:=st.toks }) :=
 .of_wp fun prog w A R st h=>by
  obtain⟨hp,gs,dr,tk,os⟩:=st;obtain⟨gl,gb,hR⟩:=h;have i1:=AutoSeq1.idx_int
  have i2:=ZK;have i3:=AutoSeq1.sub_list_list
  have i4:=AutoSeq1.sub_tuple_list;have i5:=AutoSeq1.sub_list_tuple
  have both:(xs++ys).size<=Vz+1:=by rw [Array.size_append];exact h2
  wp_walk using (wpAny_updateSeq gl rfl (hz:=h1) (_hz':=both)),ZL gl,ZL gb
  exact⟨_,rfl,hR⟩
theorem Gw:zi X "list.extend" yo:=fun I rx rv h=>by
 have long:∀{n:Nat} (b:Bool),n<=Vz->¬ (b && Xx n)=true:=fun b h=>by
  rw [show Xx _=false by unfold Xx;exact decide_eq_false (by omega),YR];exact Xm
 unfold yo at h;split at h
 ·split at h
  ·rename_i n t _ _ ys zs ea ev
   obtain⟨hz,h⟩:=aC h;have hz:ys.length+zs.length<=Vz:=hz
   cases h;obtain⟨u,rfl,ru⟩:=bM rv;obtain⟨p,v⟩:=I.view ru;rw [ev] at v;obtain⟨a,its,cnt,rfl,e,rr,hl,_⟩:=I.v8 rx ea;obtain⟨b,qg,Nr,rfl,e2,Cy,MD⟩:=I.lst v;have kY:qg.size=zs.length:=by simpa using (Vr Cy).symm
   refine call_meets Y3 ⟨_,e,rfl⟩ F.entry_list_extend (F.args_list_extend_2 _ _) (AutoSeq1.list_extend_list_list_0 a its cnt b qg Nr (long _ (by omega)) (by omega) (by omega)) ⟨e,e2,?_⟩;exact I.rP ea rx e (by simpa using rr.app Cy) (by simp;omega)
  ·rename_i n t _ _ ys zs ea ev
   obtain⟨hz,h⟩:=aC h;have hz:ys.length+zs.length<=Vz:=hz
   cases h;obtain⟨u,rfl,ru⟩:=bM rv;obtain⟨p,v⟩:=I.view ru;rw [ev] at v;obtain⟨a,its,cnt,rfl,e,rr,hl,_⟩:=I.v8 rx ea;obtain⟨b,qg,rfl,⟨⟨oc,od,dt,sl⟩,e2,hc,n2,hd⟩,Cy,MD⟩:=I.tupP v;simp only at hc hd;subst hc hd;have kY:qg.size=zs.length:=by simpa using (Vr Cy).symm
   refine call_meets Y3 ⟨_,e,rfl⟩ F.entry_list_extend (F.args_list_extend_2 _ _) (nu a its cnt b qg n2 od sl (long _ (by omega)) (by omega) (by omega)) ⟨e,e2,?_⟩;exact I.rP ea rx e (by simpa using rr.app Cy) (by simp;omega)
  ·cases h
 ·cases h
theorem count_eq {α β:Type} {l:List α} {k:List β} {f:α->Bool} {g:β->Bool} (hl:l.length=k.length) (h:∀(i:Nat) a b,l[i]?=some a->k[i]?=some b->f a=g b):l.countP f=k.countP g:=by
 induction l generalizing k with
 | nil=>cases k with
  | nil=>rfl
  | cons _ _=>cases hl
 | cons a l ih=>cases k with
  | nil=>cases hl
  | cons b k =>
   rw [List.countP_cons,List.countP_cons,ih (by simpa using hl) (fun i x y e1 e2=>h (i+1) x y (by simpa using e1) (by simpa using e2)),h 0 a b rfl rfl]
theorem lx {M:Model} {A:VZ} {E:U8->Vc->Prop} {s:Vc} {β:Type} {n:Nat} (f:Nat->β->Sem (ForInStep β)) (I:Nat->β->Vc->Prop) (Q:β->Vc->Prop) {b:β}
  (turn:∀i b s',i<n->I i b s'->Vq M A (f i b) (fun r Cz=>match r with|.done b'=>Q b' Cz|.yield b'=>I (i+1) b' Cz) E s')
  (fin:∀b s',I n b s'->Q b s') (h:I 0 b s):Vq M A (forIn [0:n] b f) Q E s:=by
 rw [Std.Legacy.Range.forIn_eq_forIn_range'];have hsz:([0:n]:aa3).size=n:=by simp [Std.Legacy.Range.size]
 show Vq M A (forIn (List.range' 0 ([0:n]:aa3).size 1) b f) Q E s;rw [hsz];refine wpAny_forIn_list f (fun rest b s'=>∃i,i<=n/\rest=List.range' i (n - i) 1/\I i b s') Q ?_ ?_ _ _ ⟨0,VK _,by simp,h⟩
 ·rintro x rest b s' ⟨i,hi,er,hI⟩
  have bQ:i<n:=by
   cases e:n - i with
   | zero=>rw [e] at er;cases er
   | succ m=>omega
  have e2:n - i=(n - (i+1))+1:=by omega
  rw [e2,List.range'_succ] at er;injection er with e3 e4;subst e3;refine wpAny_mono (turn x b s' bQ hI) (fun r Cz q=>?_) fun _ _ q=>q
  cases r with
  | done b'=>exact q
  | yield b'=>exact⟨x+1,bQ,e4,q⟩
 ·rintro b s' ⟨i,hi,er,hI⟩
  have:i=n:=by
   cases e:n - i with
   | zero=>omega
   | succ m=>rw [e,List.range'_succ] at er;cases er
  subst this;exact fin b s' hI
open SeqAt in
theorem oH (l:VJ) (items:Array U8) (n:Nat) (dd:Option VJ) (sl:Array (Option U8)) (x:U8) (e:U8->Bool) (j:Nat) (hj:j<items.size) (hit:e items[j]=true) (lU:∀m (hm:m<items.size),m<j->e items[m]=false) :
  Meets (Builtin.«tuple.index» ⟨[.ref l,x],[]⟩)
   (fun A R s=>s.heap.get? l=some { cls:=.type "tuple",dict:=dd,data:=.seq items n,slots:=sl }/\(∀y,y∈items->EqAt A.in1 s y x (e y))/\R (.ok (.ret (.int (j:Nat) s.toks))) { s with toks:=s.toks+1 }) :=
 .of_wp fun prog w A R s h=>by
  obtain⟨hp,g,d,tk,os⟩:=s;obtain⟨hl,he,h⟩:=h
  wp_walk using wpAny_loadPart' hl,lx _ (fun i b s'=>b.1=none/\s'=⟨hp,g,d,tk,os⟩/\i<=j) _
  case turn =>
   rintro i b s' hi ⟨hb,rfl,uB⟩;have hi':i<items.size:=by omega
   rw [Vf hi'];refine U0 (he items[i] (ZM hi') prog w _ _ ?_);by_cases hy:i=j
   ·subst hy
    rw [hit]
    wp_walk
    exact⟨_,rfl,h⟩
   ·rw [lU i hi' (by omega)]
    wp_walk
    exact⟨rfl,rfl,by omega⟩
  case fin =>
   rintro⟨b1,b2⟩ s' ⟨hb,rfl,uB⟩;omega
  case h =>
   exact⟨rfl,rfl,VK _⟩
theorem zk {A:VZ} {its:Array U8} (hu:A.units+8<cLine) (I:Inv X pins φ g L s) (h1:dat 8 t=true) (h2:xs.all (dat 8)=true) (ru:RT g none t u) (rr:cG g xs its.toList):∃e:U8->Bool,(∀w∈its,Xj A s w u (e w))/\its.toList.countP e=xs.countP fun y=>eqT y t:=by
 obtain⟨e,he,_,hi⟩:=qd I hu h1 ru h2 rr;exact⟨e,fun w hw=>he w (by simpa using hw),(count_eq (Vr rr) fun i a b e1 e2=>(hi i a b e1 e2).symm).symm⟩
theorem CA (hu:X.A.units+20<cLine):zi X "list.count" vK:=fun I rx rv h=>by
 have iA:X.A.in1.units+8<cLine:=by show X.A.units+1+8<cLine;omega
 obtain⟨p,v⟩:=I.view rx;unfold vK at h;split at h
 ·rename_i ev
  obtain⟨⟨h1,h2⟩,h⟩:=aC h;cases h;obtain⟨u,rfl,ru⟩:=bM rv;rw [ev] at v;obtain⟨a,its,n,rfl,e,rr,_⟩:=I.lst v;obtain⟨f,f1,f2⟩:=zk iA I h1 h2 ru rr;exact call_meets Z2 (ah e).typeIs PySem.F.entry_list_count (PySem.F.args_list_count_2 _ _) (SeqAt.list_countAt a its n none #[] u f) ⟨e,f1,by rw [f2];exact(I.tok _).ep (.int _ _)⟩
 ·cases h
theorem CB (hu:X.A.units+20<cLine):zi X "tuple.count" vL:=fun I rx rv h=>by
 have iA:X.A.in1.units+8<cLine:=by show X.A.units+1+8<cLine;omega
 obtain⟨p,v⟩:=I.view rx;unfold vL at h;split at h
 ·rename_i ev
  obtain⟨⟨h1,h2⟩,h⟩:=aC h;cases h;obtain⟨u,rfl,ru⟩:=bM rv;rw [ev] at v;obtain⟨a,its,rfl,⟨⟨oc,od,dt,sl⟩,e2,hc,n2,hd⟩,rr,_⟩:=I.tupP v;simp only at hc hd;subst hc hd;obtain⟨f,f1,f2⟩:=zk iA I h1 h2 ru rr;exact call_meets ZN ⟨_,e2,rfl⟩ PySem.F.entry_tuple_count (PySem.F.args_tuple_count_2 _ _) (SeqAt.tuple_countAt a its n2 od sl u f) ⟨e2,f1,by rw [f2];exact(I.tok _).ep (.int _ _)⟩
 ·cases h
theorem Gx (hu:X.A.units+20<cLine):zi X "tuple.index" B3:=fun I rx rv h=>by
 have iA:X.A.in1.units+8<cLine:=by show X.A.units+1+8<cLine;omega
 obtain⟨p,v⟩:=I.view rx;unfold B3 at h;split at h
 ·rename_i xs t
  obtain⟨⟨h1,h2⟩,h⟩:=aC h;obtain⟨u,rfl,ru⟩:=bM rv;split at h
  ·rename_i j hj
   cases h;obtain⟨a,its,rfl,⟨⟨oc,od,dt,sl⟩,e2,hc,n2,hd⟩,rr,_⟩:=I.tupP v;simp only at hc hd;subst hc hd;obtain⟨f,f1,_,f3⟩:=qd I iA h1 ru h2 rr;have hl:its.size=xs.length:=by simpa using (Vr rr).symm
   obtain⟨j1,j2,j3⟩:=Wo.mp hj;have at_:∀m (hm:m<its.size),f its[m]=eqT (xs[m]'(by omega)) t:=fun m hm=>f3 m _ _ (Ge9 (by omega)) (by simp [hm])
   refine call_meets ZO ⟨_,e2,rfl⟩ PySem.F.entry_tuple_index (PySem.F.args_tuple_index_2 _ _) (oH a its n2 od sl u f j (by omega) (by rw [at_];exact j2) (fun m hm R0=>?_)) ⟨e2,fun w hw=>f1 w (by simpa using hw),(I.tok _).ep (.int _ _)⟩;rw [at_];simpa using j3 m R0
  ·cases h
 ·cases h
theorem zm {prog:Wh} {w:Xg} {A:VZ} {P:Nat->U8->Prop} (f:Nat->Cs) (hf:∀i v,P i v->∃t,v=.str ⟨(f i).toArray⟩ t):CmpOf prog w A .Lt P (fun i j=>decide (f i<f j)):=fun i j vi vj s Q E hi hj h=>by
 obtain⟨t,rfl⟩:=hf i vi hi;obtain⟨u,rfl⟩:=hf j vj hj;have h:Q (.bool (decide ((⟨(f i).toArray⟩:Str).cps.toList<(⟨(f j).toArray⟩:Str).cps.toList))) s:=h
 exact(aaL h:Vq (model prog w) A (compareOp .Lt _ _) Q E s)
theorem zo:dS X (.builtin "min") yn:=fun {_ _ g _ s _ _ _ _} I r h=>by
 unfold yn at h;split at h
 ·cases h
  rename_i i j;obtain⟨u,v,rfl,r1,r2⟩:=lr r;cases r1;cases r2;refine min_two_ints I.ok.hd fun h' tk k=>(I.kept k).ep ?_
  by_cases hj:j<i
  ·rw [if_pos hj,if_pos hj];exact .int _ _
  ·rw [if_neg hj,if_neg hj];exact .int _ _
 ·cases h
  rename_i a b;obtain⟨u,v,rfl,r1,r2⟩:=lr r;obtain⟨t,rfl,ha⟩:=r1.ju;obtain⟨t',rfl,hb⟩:=r2.ju;have hT:(s.heap.push { cls:=.type "tuple",data:=.seq #[.str ⟨a.toArray⟩ t,.str ⟨b.toArray⟩ t'] }).IsTuple s.heap.objs.size #[.str ⟨a.toArray⟩ t,.str ⟨b.toArray⟩ t']:=⟨_,U9 _ rfl,rfl,0,rfl⟩
  refine call_min_two (wpAny_pyIter_tuple hT ?_);have hsz:(s.heap.push { cls:=.type "tuple",data:=.seq #[.str ⟨a.toArray⟩ t,.str ⟨b.toArray⟩ t'] }).objs.size=s.heap.objs.size+1:=Wi ..
  refine⟨_,[_,s.heap.objs.size],[_],_,_,_,fun i j=>decide ([a,b].getD i [] < [a,b].getD j []),rfl,Walks.tuple (A:=X.A.in1) I.ok.hd _ s.heap.objs.size (by rw [hsz];exact VB (WH _)) #[.str ⟨a.toArray⟩ t,.str ⟨b.toArray⟩ t'],
   ⟨⟨_,U9 _ rfl,rfl,rfl⟩,hT.push _⟩,fun b hb=>?_,(by show 0<2;decide),zm (fun i=>[a,b].getD i []) (fun i v hP=>?_),fun v h' tk hP hk=>?_⟩
  ·show _<((s.heap.push _).push _).objs.size
   rw [Wi,hsz];rcases Vn.mp hb with rfl|hb
   ·rw [hsz];exact WH _
   ·rcases Vn.mp hb with rfl|hb
    ·exact Wa (WH _)
    ·cases hb
  ·have hP:#[YU ⟨a.toArray⟩ t,YU ⟨b.toArray⟩ t'][i]?=some v:=hP
   match i,hP with
   | 0,hP=>exact⟨t,by simpa using hP.symm⟩
   | 1,hP=>exact⟨t',by simpa using hP.symm⟩
   | i+2,hP=>simp at hP
  ·have hold:∀c o,s.heap.get? c=some o->h'.get? c=some o:=fun c o e=>by
    refine hk c o (fun hm=>?_) (U1 _ (U1 _ e));rcases Vn.mp hm with e1|hm
    ·have:=Vu e;rw [e1,hsz] at this;exact WG _ (Nat.lt_of_succ_lt this)
    ·cases hm
   have hP:#[YU ⟨a.toArray⟩ t,YU ⟨b.toArray⟩ t'][argBest (fun i j=>decide ([a,b].getD i [] < [a,b].getD j [])) 1]?=some v:=hP;refine(I.kept (t':=tk) hold).ep ?_;by_cases hb':b<a
   ·rw [if_pos hb']
    have e:argBest (fun i j=>decide ([a,b].getD i [] < [a,b].getD j [])) 1=1:=by
     show(if decide (b<a)=true then 1 else 0)=1;rw [decide_eq_true hb'];rfl
    rw [e] at hP;have:YU ⟨b.toArray⟩ t'=v:=by simpa using hP
    rw [<- this];exact .str _ _ hb
   ·rw [if_neg hb']
    have e:argBest (fun i j=>decide ([a,b].getD i [] < [a,b].getD j [])) 1=0:=by
     show(if decide (b<a)=true then 1 else 0)=0;rw [decide_eq_false hb'];rfl
    rw [e] at hP;have:YU ⟨a.toArray⟩ t=v:=by simpa using hP
    rw [<- this];exact .str _ _ ha
 ·cases h
theorem RT.JI {z:Str} {t:Tok} (h:z.cps.toList.length<=lim):RT g none (.str z.cps.toList) (.str z t):=by
 have:=RT.str (g:=g) z.cps.toList t h;simpa using this
theorem zq:zi X "str.strip" mW:=fun I rx rv h=>by
 unfold mW at h;split at h
 ·obtain⟨hz,h⟩:=aC h
  cases h;obtain⟨u,rfl,ru⟩:=bM rv;obtain⟨t,rfl,h1⟩:=rx.ju;obtain⟨t',rfl,h2⟩:=ru.ju;exact SC.stripChars (fun t2 k=>(I.tok _).ep (.JI hz)) (by rw [str_len];exact h1)
 ·cases h
open Builtin Builtin.Str in
theorem zr {prog:Wh} {w:Xg} {A:VZ} {E:U8->Vc->Prop} {s:Vc} {x y:Str} {t u:Tok} {Q:U8->Vc->Prop} (hy:(y.length == 0)=false) (hsz:x.length<=Vz) (hsz2:(Yh x y).length<=Vz)
  (h:∀l k,l.map (·.1)=Yh x y->Q (.ref s.heap.objs.size) { s with heap:=s.heap.push { cls:=.type "list",data:=.seq (strValues l).toArray },toks:=k }) :
  Vq (model prog w) A (call (.builtin "str.split") [.str x t,.str y u]) Q E s:=by
 unfold Yh at hsz2 h;cases h1:(decide (x.length<y.length) || decide (strKind x<strKind y))
 ·rw [if_neg (ne_true_of_eq_false h1)] at hsz2 h
  cases hf:(occurrences x y 0 x.length (x.length+1)).isEmpty
  ·rw [if_neg (ne_true_of_eq_false hf)] at hsz2 h
   refine call_meets XN (typeIs_str _ _ _) Yz (Yv _ _) (meets_str_split_sep x y t u h1 hy hf hsz hsz2) ?_;show wants Q E _ { s with toks:=_,heap:=s.heap.push { cls:=.type "list",data:=.seq (strsFrom s.toks (partsBetween x (occurrences x y 0 x.length (x.length+1)) y.length)).toArray } }
   rw [strsFrom_eq];exact h (numbered s.toks _) _ (numbered_texts _ _)
  ·rw [if_pos hf] at h
   exact call_meets XN (typeIs_str _ _ _) Yz (Yv _ _) (meets_str_split_not_found x y t u h1 hy hf) (h [(x,t)] s.toks rfl)
 ·rw [if_pos h1] at h
  exact call_meets XN (typeIs_str _ _ _) Yz (Yv _ _) (meets_str_split_cannot_occur x y t u h1) (h [(x,t)] s.toks rfl)
theorem rR:∀{l:List (Str × Tok)} {zs:List Str},l.map (·.1)=zs->(zs.all fun s=>decide (s.cps.toList.length<=lim))=true->cG g (zs.map fun s=>.str s.cps.toList) (strValues l)
 | [],_,e,_=>by subst e;exact .nil
 | (z,t)::r,_,e,h=>by
  subst e;rw [Vg,VU,Ve] at h;exact .cons (.JI (of_decide_eq_true h.1)) (rR rfl h.2)
theorem zu {fz:Bool}:zi X "str.split" (mV fz):=fun {_ _ _ _ s _ _ _ _ _ _} I rx rv h=>by
 unfold mV at h;split at h
 ·rename_i z y
  obtain⟨⟨h1,h2⟩,h⟩:=aC h;obtain⟨u,rfl,ru⟩:=bM rv;obtain⟨t,rfl,h3⟩:=rx.ju;obtain⟨t',rfl,_⟩:=ru.ju;have hz:=p7 h
  refine zr (by rw [str_len];cases y with|nil=>exact absurd rfl h1|cons a b=>rfl) (by rw [str_len];exact h3) (by rw [Lm9] at hz;exact hz) fun l k e=>?_
  exact lh (t':=k) I (rR e h2) h (fun b u e=>U1 _ e) (U9 _ rfl)
 ·cases h
theorem JJ (sep:Cs) (zs:List Cs):Txt.join (toS sep) (zs.map toS)=toS (jn sep zs)/\(jn sep zs).length<=(zs.map (·.length)).sum+zs.length * sep.length:=by
 have e:Txt.join (toS sep) (zs.map toS)=Str.join (toS sep) (zs.map toS):=eq_of_beq (PyProof.Rows.join_plain_closes _ _);rw [e];clear e;induction zs with
 | nil=>exact⟨rfl,by simp [jn]⟩
 | cons x r ih =>
  cases r with
  | nil=>exact⟨rfl,by simp [jn]⟩
  | cons y r =>
   obtain⟨h1,h2⟩:=ih;constructor
   ·show toS x++toS sep++Str.join (toS sep) ((y::r).map toS)=_
    rw [h1];show(⟨x.toArray++sep.toArray++(jn sep (y::r)).toArray⟩:Str)=⟨(x++sep++jn sep (y::r)).toArray⟩
    simp
   ·show(x++sep++jn sep (y::r)).length<=_
    rw [U3,U3,Vg,List.sum_cons,Vb,Nat.add_mul];omega
theorem qh:∀{ys:List T} {zs:List Cs} {us:List U8},ys.mapM IK=some zs->cG g ys us->StrsAre us (zs.map toS)
 | [],zs,us,h,r=>by simp at h;subst h;cases r;exact .nil
 | y::ys,zs,us,h,r=>by
  rw [W9] at h;cases e1:IK y with
  | none=>rw [e1] at h;cases h
  | some b =>
   rw [e1] at h;cases e2:ys.mapM IK with
   | none=>rw [e2] at h;cases h
   | some q =>
    rw [e2] at h;have h:some (b::q)=some zs:=h
    cases h;cases r with
    | cons a1 a2 =>
     obtain⟨t,rfl,_⟩:=Gr e1 a1;exact .cons _ t (qh e2 a2)
theorem CC:zi X "str.join" lS:=fun {_ _ g L s _ _ w1 L1 _ _} I rx rv h=>by
 unfold lS at h;split at h
 ·rename_i sep t
  obtain⟨u,rfl,ru⟩:=bM rv;obtain⟨tk,rfl,_⟩:=rx.ju;obtain⟨p,v⟩:=I.view ru;split at h
  ·rename_i zs ez
   obtain⟨ys,y1,y2⟩:=W7.mp ez;unfold items at y1;have fin:b8 ((zs.map (·.length)).sum+zs.length * sep.length<=16777216) (R.ok (T.str (jn sep zs)) L)=.ok w1 L1->(vw L t=.lst ys\/vw L t=.tup ys)->Vq (model X.prog X.w) X.A (call (.builtin "str.join") [.str ⟨sep.toArray⟩ tk,u]) (EP X _ _ g w1 L1) F0 s:=fun h hv=>by
    obtain⟨hz,h⟩:=aC h;cases h;obtain⟨e1,e2⟩:=JJ sep zs;have hz':((zs.map toS).map (·.length)).sum+(zs.map toS).length * (toS sep).length<=16777216:=by
     have:(fun z:Cs=>(toS z).length)=fun z=>z.length:=funext fun z=>str_len
     simp only [Vv,Lm9,Wz,this];rw [show(toS sep).length=sep.length from str_len];exact hz
    have rj:∀t',RT g none (.str (jn sep zs)) (.str (Txt.join (toS sep) (zs.map toS)) t'):=fun t'=>by
     rw [e1];exact .str _ _ (Vt e2 hz)
    rcases hv with hv|hv
    ·rw [hv] at v
     obtain⟨a,its,n,rfl,e,rr,_⟩:=I.lst v;exact join_list (items:=its) (ah e) (qh y2 rr) hz' fun t' k=>(I.tok _).ep (rj t')
    ·rw [hv] at v
     obtain⟨a,its,rfl,e,rr,_⟩:=I.tupP v;exact join_tuple (items:=its) e (qh y2 rr) hz' fun t' k=>(I.tok _).ep (rj t')
   cases ev:vw L t with
   | str z=>simp only [ev] at h;cases h
   | lst R1=>simp only [ev] at h y1;cases y1;exact fin h (.inl ev)
   | tup R1=>simp only [ev] at h y1;cases y1;exact fin h (.inr ev)
   | _=>simp only [ev] at y1;cases y1
  ·cases h
 ·cases h
end
instance R2:DecidableEq T:=fun a b=>Wf _
mutual
noncomputable def dr:T->Nat
 | .tup xs=>x7 xs+1
 | _=>1
noncomputable def x7:List T->Nat
 | []=>0
 | x::xs=>dr x+x7 xs
end
inductive cP (h:Heap):T->U8->Prop
 | int (i t):cP h (.int i) (.int i t)
 | str (s t):cP h (.str s) (.str ⟨s.toArray⟩ t)
 | tup {a o its n xs} (ho:h.get? a=some o) (hc:o.cls=.type "tuple") (hd:o.data=.seq its n) (hl:xs.length=its.size) (hi:∀(i:Nat) x v,xs[i]?=some x->its[i]?=some v->cP h x v):cP h (.tup xs) (.ref a)
section
variable {X:Cx} {pins:bf} {φ:Fr} {g:G} {L L':aa} {s:Vc} {h h':Heap} {xs ys:List T} {t t2:T} {u v:U8} {n:Nat} {a d:VJ} {P:Wh} {w:Xg} {A:VZ} {E:U8->Vc->Prop}
theorem Gy {t:T} (h:kd 0 t=true):False:=by cases t <;> cases h
theorem ie (hk:xs.all (kd n)=true) {i:Nat} {x:T} (e:xs[i]?=some x):kd n x=true:=U7.mp hk x (VN e)
theorem Inv.Gz (I:Inv X pins φ g L s):∀(n:Nat) {t:T} {u:U8},kd n t=true->RT g none t u->cP s.heap t u
 | 0,t,_,h,_=>(Gy h).elim
 | n+1,t,u,h,r=>by
  cases r with
  | int i t=>exact .int i t
  | str z t hz=>exact .str z t
  | tup hk hc hd hz hl hi=>exact .tup (I.kn hk) hc.1 hd hl fun i x v e1 e2=>I.Gz n (ie h e1) (hi i x v e1 e2)
  | _=>cases h
theorem cP.same (k1:cP h t u):∀{t2:T},cP h t2 u->t=t2:=by
 induction k1 with
 | int i t=>intro t2 k;cases k;rfl
 | str z t =>
  intro t2 k;generalize hv:YU ⟨z.toArray⟩ t=v at k;cases k <;> cases hv;rfl
 | tup ho hc hd hl hi ih =>
  rename_i a o its nn xs;intro t2 k;cases k with
  | tup ho' hc' hd' hl' hi' =>
   rw [ho] at ho';cases ho';rw [hd] at hd';cases hd';congr 1;refine WJ (by omega) fun i h1 h2=>?_
   have e:=Vf (xs:=its) (i:=i) (by omega);exact ih i _ _ (Ge9 h1) e (hi' i _ _ (Ge9 h2) e)
theorem cP.keeps {o:Obj} {es:Array DictEntry} {ep:Nat} (k:cP h t u) (ho:h.get? d=some o) (hd:o.data=.dict es ep) (hs:WL d h h'):cP h' t u:=by
 induction k with
 | int i t=>exact .int i t
 | str z t=>exact .str z t
 | tup ho' hc hd' hl hi ih =>
  refine .tup ((hs.2 _ fun e=>?_).trans ho') hc hd' hl ih;rw [e,ho] at ho';cases ho';rw [hd] at hd';cases hd'
theorem v9:∀xs:List T,BP w xs=xs.map (hT w)
 | []=>by rw [BP];rfl
 | x::xs=>by rw [BP,v9 xs];rfl
theorem rS:∀(xs:List T) (i:Nat) (x:T),xs[i]?=some x->x7 (xs.take (i+1))=x7 (xs.take i)+dr x
 | x::xs,0,y,h=>by cases h;simp [x7]
 | x::xs,i+1,y,h=>by
  rw [aaM,aaM,x7,x7,rS xs i y (by simpa using h)];omega
theorem cP.hash:∀(n:Nat) {A:VZ} {s:Vc} {t:T} {u:U8} {Q:Int->Vc->Prop},kd n t=true->A.units+n<cLine->cP s.heap t u->Q (hT w t) { s with toks:=s.toks+dr t }->Vq (model P w) A (pyHash u) Q E s
 | 0,_,_,t,_,_,hk,_,_,_=>(Gy hk).elim
 | n+1,A,s,t,u,Q,hk,hu,k,h=>by
  cases k with
  | int i t=>rw [hT,dr] at h;exact wpAny_pyHash_int h;all_goals (intro _ z;cases z)
  | str z t=>rw [hT,dr] at h;exact wpAny_pyHash_str h;all_goals (intro _ z;cases z)
  | tup ho hc hd hl hi =>
   rename_i a o its nn xs;have hT':s.TypeIs (.ref a) "tuple":=⟨o,ho,hc⟩
   unfold pyHash
   first|unfold pyHashByItsType|skip
   first|refine U0 (wpAny_cRoomFor_or (.inr (by omega)) ?_)|skip
   refine U0 (wpAny_specialOf hT' XO.lookup ?_);show Vq _ _ (if (some (Y7 "tuple.__hash__") == some Wr)=true then _ else _) Q E s
   rw [if_neg (by rw [beq_builtin_none];exact Xm)];refine U0 (wpAny_specialOf hT' XO.lookup ?_);show Vq _ _ (callSpecialIfBoundUnlessNone? (.ref a) "__hash__" _ >>= _) Q E s
   refine U0 (wpAny_callSpecialIfBoundUnlessNone?_slot hT' XO (wpAny_call_entry XO hT' F.entry_tuple_hash ?_ (F.args_tuple_hash_1 _)));show Vq _ _ (Yb (.ref a) >>= _) _ _ s
   refine U0 (wpAny_tupleItemsOf ho hd ?_);refine U0 ?_;rw [<- YA];refine wpAny_forIn_list _ (fun rest (b:Array Int) s'=>∃i,i<=xs.length/\rest=its.toList.drop i/\b.toList=(xs.take i).map (hT w)/\s'={ s with toks:=s.toks+x7 (xs.take i) }) _ ?_ ?_ _ _ ⟨0,VK _,rfl,by simp,by simp [x7]⟩
   ·rintro v rest b s' ⟨i,x8,hr,hb,rfl⟩
    have bQ:i<its.size:=by
     rcases aax i its.size with z|z
     ·exact z
     ·rw [XQ (by simpa using z)] at hr;cases hr
    rw [WE (by simpa using bQ)] at hr;injection hr with e1 e2;have ex:=Ge9 (l:=xs) (i:=i) (by omega)
    have kv:cP s.heap xs[i] v:=hi i _ v ex (by rw [e1];simp [bQ]);refine U0 (cP.hash n (s:={ s with toks:=s.toks+x7 (xs.take i) }) (ie hk ex) (by show A.units+1+n<cLine;omega) kv ?_);have fin:∃j,j<=xs.length/\rest=its.toList.drop j/\(b.push (hT w xs[i])).toList=(xs.take j).map (hT w)/\({ s with toks:=s.toks+x7 (xs.take i)+dr xs[i] }:Vc)={ s with toks:=s.toks+x7 (xs.take j) } :=
     ⟨i+1,by omega,e2,by rw [aaH,ex,Vk,ZP,hb];rfl,by rw [rS xs i _ ex,X6]⟩
    first
     | exact U2 fin
     | exact U0 (U2 (U2 fin))
   ·rintro b s' ⟨i,x8,hr,hb,rfl⟩
    have tW:its.size<=i:=by
     have:=congrArg Xr hr;rw [VM,Ws] at this;simp at this;omega
    rw [V2 (by omega)] at hb;show Vq _ _ (retInt (Yi b.toList)) _ _ _
    rw [hb,V2 (show xs.length<=i by omega)];refine wpAny_ret_mkInt ?_;rw [hT,v9,dr] at h;generalize Yi (xs.map (hT w))=g at h;show Vq _ _ (if (decide (-(2:Int) ^ 63<=g) && decide (g<2 ^ 63))=true then _ else _) Q E _
    unfold reduceHash at h;by_cases hr:(decide (-(2:Int) ^ 63<=g) && decide (g<2 ^ 63))=true
    ·rw [if_pos hr]
     rw [if_pos hr] at h;exact U2 (by simpa [X6] using h)
    ·rw [if_neg hr]
     rw [if_neg hr] at h;exact U0 (wpAny_rule (U2 (by simpa [X6] using h)))
theorem cP.quiet:∀(n m:Nat) {s:Vc} {t:T} {u:U8},kd n t=true->n<=m->cP s.heap t u->Vq (model P w) A (eqIsQuiet m u) (fun b s'=>b=true/\s'=s) E s
 | 0,_,_,t,_,hk,_,_=>(Gy hk).elim
 | n+1,m,s,t,u,hk,hm,k=>by
  cases k with
  | int i t=>cases m with
   | zero=>omega
   | succ m=>exact U2 ⟨rfl,rfl⟩
  | str z t=>cases m with
   | zero=>omega
   | succ m=>exact U2 ⟨rfl,rfl⟩
  | tup ho hc hd hl hi =>
   rename_i a o its nn xs;have hT':s.TypeIs (.ref a) "tuple":=⟨o,ho,hc⟩
   obtain⟨m,rfl⟩:∃k,m=k+1:=⟨m - 1,by omega⟩;unfold eqIsQuiet;refine U0 (wpAny_specialOf hT' F.slot_tuple_eq.lookup ?_);show Vq _ _ (isInstance (.ref a) (.type "tuple") >>= _) _ _ s
   refine U0 (wpAny_isInstance hT' isSubtype_tuple_tuple ?_);simp only [WW,Vi,if_false];refine U0 (wpAny_seqItems ho hd ?_);refine U0 ?_;show Vq _ _ (forIn its _ _) _ _ s
   rw [<- YA];refine wpAny_forIn_list _ (fun rest r s'=>r.1=none/\s'=s/\∀v∈rest,v∈its) _ ?_ ?_ _ _ ⟨rfl,rfl,fun v hv=>by simpa using hv⟩
   ·rintro v rest r s' ⟨hr,rfl,hall⟩
    obtain⟨i,x8,rfl⟩:=W6 (hall v U4);have ex:=Ge9 (l:=xs) (i:=i) (by omega)
    refine U0 (wpAny_mono (cP.quiet n m (ie hk ex) (by omega) (hi i _ _ ex (Vf x8))) (fun b Cz hb=>?_) fun _ _ e=>e);obtain⟨rfl,rfl⟩:=hb;simp only [WW,Vi,if_false];exact U2 ⟨rfl,rfl,fun u iA=>hall u (U5 _ iA)⟩
   ·rintro⟨r1,r2⟩ s' ⟨hr,rfl,_⟩
    simp only at hr;subst hr;exact U2 ⟨rfl,rfl⟩
theorem wa:∀xs ys:List T,ou (fun a b=>decide (a=b)) xs ys=decide (xs=ys)
 | [],[]=>by simp [ou]
 | [],_::_=>by simp [ou]
 | _::_,[]=>by simp [ou]
 | x::xs,y::ys=>by rw [ou,wa xs ys];simp [Bool.decide_and]
open SeqAt in
theorem cP.eq:∀(n:Nat) {A:VZ} {a b:T} {u v:U8},kd n a=true->kd n b=true->A.units+n<cLine->cP s.heap a u->cP s.heap b v->EqAt A s u v (decide (a=b))
 | 0,_,a,_,_,_,h,_,_,_,_=>(Gy h).elim
 | n+1,A,a,b,u,v,ha,hb,hu,ka,kb=>by
  have iA:A.units<cLine:=by omega
  have sm:u=v->decide (a=b)=true:=fun e=>decide_eq_true (ka.same (by rw [e];exact kb))
  cases ka with
  | int i t =>
   cases kb with
   | int j t2=>rw [show decide (T.int i=T.int j)=(i == j) by rw [WQ];simp];exact .int_int _ _ _ _
   | str=>rw [decide_eq_false (by intro e;cases e)];exact .int_str _ _ _ _
   | tup ho hc hd hl hi=>rw [decide_eq_false (by intro e;cases e)];exact .int_tuple _ _ ⟨_,ho,hc,_,hd⟩ iA
  | str z t =>
   cases kb with
   | int=>rw [decide_eq_false (by intro e;cases e)];exact .str_int _ _ _ _
   | str z2 t2=>rw [show decide (T.str z=T.str z2)=(z == z2) by rw [WQ];simp,<- str_beq];exact .str_str _ _ _ _
   | tup ho hc hd hl hi=>rw [decide_eq_false (by intro e;cases e)];exact .str_tuple _ _ ⟨_,ho,hc,_,hd⟩ iA
  | tup ho hc hd hl hi =>
   have T1:s.heap.IsTuple _ _:=⟨_,ho,hc,_,hd⟩;cases kb with
   | int=>rw [decide_eq_false (by intro e;cases e)];exact .tuple_int _ _ T1 iA
   | str=>rw [decide_eq_false (by intro e;cases e)];exact .tuple_str _ _ T1 iA
   | tup ho' hc' hd' hl' hi' =>
    rename_i a1 o1 i1 n1 x1 a2 o2 i2 n2 x2;have:=RcAt.tuples (e:=fun j=>decide (x1.getD j .b7=x2.getD j .b7)) T1 ⟨_,ho',hc',_,hd'⟩ iA fun j j1 j2 =>
     cP.eq n (ie ha (getD_at (by omega))) (ie hb (getD_at (by omega))) (by show A.units+1+n<cLine;omega) (hi j _ _ (getD_at (by omega)) (Vf j1)) (hi' j _ _ (getD_at (by omega)) (Vf j2))
    rw [<- hl,<- hl',iV (f:=fun a b=>decide (a=b)),wa] at this;rw [show decide (T.tup x1=T.tup x2)=decide (x1=x2) by rw [WQ];simp];exact(both this fun e=>by have:=sm (by rw [e]);simpa using this).2
def Ei (P:Wh) (w:Xg):HeapKind P w T where
 is:=fun h k a=>cP h k (.ref a)/\kd 7 k=true
 hash:=hT w
 draws:=dr
 room:=fun A=>A.units+8<cLine
 inj:=fun a b=>a.1.same b.1
 keeps:=fun k ho hd hs=>⟨k.1.keeps ho hd hs,k.2⟩
 pyHash:=fun hu k h=>cP.hash 7 k.2 (by omega) k.1 h
 eqBool:=fun hu a b h=>cP.eq 7 a.2 b.2 (by omega) a.1 b.1 _ _ _ _ h
 quiet:=fun k h=>wpAny_mono (cP.quiet 7 8 k.2 (by omega) k.1) (fun b s' hb=>by obtain⟨rfl,rfl⟩:=hb;exact h) fun _ _ e=>e
end
end M
namespace M
open PySem PySem.Spec PyProof.Rows
noncomputable def zw:T->U8->Bool
 | .int i,.int j _=>i == j
 | .str z,.str x _=>x == ⟨z.toArray⟩
 | _,_=>false
theorem gi {k:T} {v:U8} (h:zw k v=true):(∃i t,k=.int i/\v=.int i t)\/∃z t,k=.str z/\v=.str ⟨z.toArray⟩ t:=by
 unfold zw at h;split at h
 ·exact .inl ⟨_,_,rfl,by rw [eq_of_beq h]⟩
 ·exact .inr ⟨_,_,rfl,by rw [eq_of_beq h]⟩
 ·cases h
theorem toA {z z':Cs} (e:(⟨z.toArray⟩:Str)=⟨z'.toArray⟩):z=z':=by simpa using congrArg (fun x:Str=>x.cps.toList) e
def ig (P:Wh) (w:Xg):KeyKind P w T where
 is:=zw
 hash:=hT w
 inj:=fun v a b ha hb=>by
  rcases gi ha with⟨i,t,rfl,rfl⟩|⟨z,t,rfl,rfl⟩
  ·rcases gi hb with⟨j,t',rfl,e⟩|⟨z',t',rfl,e⟩
   ·injection e with e1 _;rw [e1]
   ·cases e
  ·rcases gi hb with⟨j,t',rfl,e⟩|⟨z',t',rfl,e⟩
   ·cases e
   ·injection e with e1 _;rw [toA e1]
 byValue:=fun k v h=>by rcases gi h with⟨i,t,rfl,rfl⟩|⟨z,t,rfl,rfl⟩ <;> rfl
 pyHash:=fun h q=>by
  rcases gi h with⟨i,t,rfl,rfl⟩|⟨z,t,rfl,rfl⟩
  ·rw [hT] at q;exact wpAny_pyHash_int q
  ·rw [hT] at q;exact wpAny_pyHash_str q
 eqBool:=fun {A E s a b u v Q} ha hb q=>by
  rcases gi ha with⟨i,t,rfl,rfl⟩|⟨z,t,rfl,rfl⟩
  ·rcases gi hb with⟨j,t',rfl,rfl⟩|⟨z',t',rfl,rfl⟩
   ·rw [show decide (T.int i=T.int j)=(i == j) by rw [WQ];simp] at q;exact wpAny_eqBool_int q
   ·rw [decide_eq_false (by intro e;cases e)] at q;exact SeqAt.EqAt.int_str _ _ _ _ _ _ _ _ q
  ·rcases gi hb with⟨j,t',rfl,rfl⟩|⟨z',t',rfl,rfl⟩
   ·rw [decide_eq_false (by intro e;cases e)] at q;exact SeqAt.EqAt.str_int _ _ _ _ _ _ _ _ q
   ·rw [show decide (T.str z=T.str z')=(z == z') by rw [WQ];simp,<- str_beq] at q;exact SeqAt.EqAt.str_str _ _ _ _ _ _ _ _ q
 «strs»:=fun k x t v h=>by
  rcases gi h with⟨i,t',rfl,e⟩|⟨z,t',rfl,e⟩
  ·cases e
  ·injection e with e1 _
   subst e1;cases v <;> rfl
def pl (ks:List (T × T)) (y:T):Option Nat:=ks.findIdx? fun p=>decide (p.1=y)
section
variable {X:Cx} {pins:bf} {φ:Fr} {g:G} {L L':aa} {s:Vc} {ks:List (T × T)} {t y x:T} {u v:U8} {n:Nat} {a d:VJ} {A:VZ} {q:Option (VJ × VJ)} {E:U8->Vc->Prop}
theorem mH (h:kZ t=true) (r:RT g none t u):zw t u=true:=by
 cases r <;> first|cases h|skip
 ·exact beq_self_eq_true _
 ·exact beq_self_eq_true _
theorem wb (I:Inv X pins φ g L s) (h:E7 t=true) (r:RT g none t u):∃a,u=.ref a/\cP s.heap t u/\kd 7 t=true:=by
 cases t <;> first|cases h|skip
 have k:kd 7 (.tup _)=true:=h;have z:=I.Gz 7 k r
 cases z with
 | tup ho hc hd hl hi=>exact⟨_,rfl,.tup ho hc hd hl hi,k⟩
structure bL (X:Cx) (g:G) (s:Vc) (ks:List (T × T)) (a:VJ) (o:Obj) (es:Array DictEntry) (ep:Nat):Prop where
 ho:s.heap.get? a=some o
 hx:o.ExactDict
 hd:o.data=.dict es ep
 hz:ks.length<=Vz
 hl:ks.length=es.size
 hn:(ks.map (·.1)).Nodup
 hm:gL (ks.map (·.1))=true
 hs:(a == sysModules)=false
 hh:∀(i:Nat) x e,ks[i]?=some x->es[i]?=some e->e.hash=hT X.w x.1
 h1:∀(i:Nat) x e,ks[i]?=some x->es[i]?=some e->RT g none x.1 e.key
 h2:∀(i:Nat) x e,ks[i]?=some x->es[i]?=some e->RT g none x.2 e.val
theorem Inv.aU (I:Inv X pins φ g L s) (r:RT g q (.aU ks) u):∃a o es ep,u=.ref a/\ua q a a/\g.kn q.isNone a o/\bL X g s ks a o es ep:=by
 cases r with
 | aU ht hk hx hd hz hl hn hs hh h1 h2=>exact⟨_,_,_,_,rfl,ht,hk,I.kn hk,hx,hd,hz,hl,hn.1,hn.2,hs,by rw [<- I.gw];exact hh,h1,h2⟩
theorem bL.at (D:bL X g s ks a o es ep) {i:Nat} {p:T × T} (h:ks[i]?=some p):∃e,es[i]?=some e:=by
 have:=(Vl.mp h).1;exact⟨_,Vf (by rw [<- D.hl];exact this)⟩
theorem bL.find (D:bL X g s ks a o es ep) (I:Inv X pins φ g L s) (hu:A.units+8<cLine) (hf:dR ks y) (ry:RT g none y v) :
  ∃n,(∀(Q:Int->Vc->Prop) (E:U8->Vc->Prop),Q (hT X.w y) { s with toks:=s.toks+n }->Vq (model X.prog X.w) A (pyHash v) Q E s) /\
   ∀(tk:Nat) (Q:Option Nat->Vc->Prop) (E:U8->Vc->Prop),Q (pl ks y) { s with toks:=tk }->Vq (model X.prog X.w) A (dictFind a v (hT X.w y)) Q E { s with toks:=tk }:=by
 unfold dR gL at hf;rw [XY] at hf;rcases hf with hf|hf
 ·rw [VU,Ve] at hf
  have hv:=mH hf.1 ry;have sc:∀(i:Nat) p e,ks[i]?=some p->es[i]?=some e->zw p.1 e.key=true:=fun i p e e1 e2 =>
   mH (U7.mp hf.2 _ (Vo (VN e1))) (D.h1 i p e e1 e2)
  refine⟨1,fun Q E hq=>(ig X.prog X.w).pyHash hv hq,fun tk Q E hq=>?_⟩;refine wpAny_dictFind_of (knd:=ig X.prog X.w) (s:={ s with toks:=tk }) hv D.ho D.hd (fun e he=>?_) ?_
  ·obtain⟨i,hi,rfl⟩:=W6 he
   have e1:=Ge9 (l:=ks) (i:=i) (by rw [D.hl];exact hi);exact⟨_,sc i _ _ e1 (Vf hi),D.hh i _ _ e1 (Vf hi)⟩
  ·have e:(es.findIdx? fun e=>(ig X.prog X.w).is y e.key)=pl ks y:=by
    obtain⟨es⟩:=es;rw [List.findIdx?_toArray];unfold pl;have go:∀(l:List DictEntry) (ks:List (T × T)),ks.length=l.length->(∀(i:Nat) p e,ks[i]?=some p->l[i]?=some e->zw p.1 e.key=true)->(l.findIdx? fun e=>(ig X.prog X.w).is y e.key)=ks.findIdx? fun p=>decide (p.1=y):=fun l=>by
     induction l with
     | nil=>intro ks hl _;cases ks with
      | nil=>rfl
      | cons _ _=>cases hl
     | cons e l ih=>intro ks hl h;cases ks with
      | nil=>cases hl
      | cons p ks =>
       rw [Zo,Zo,ih ks (by simpa using hl) (fun i p e e1 e2=>h (i+1) p e (by simpa using e1) (by simpa using e2)),KeyKind.is_eq_decide (knd:=ig X.prog X.w) (h 0 p e rfl rfl) y];rw [show decide (y=p.1)=decide (p.1=y) by rw [WQ];simp [eq_comm]]
    exact go es ks (by simpa using D.hl) fun i p e e1 e2=>sc i p e e1 (by simpa using e2)
   rw [e];exact hq
 ·rw [VU,Ve] at hf
  obtain⟨b,rfl,kb,db⟩:=wb I hf.1 ry;refine⟨dr y,fun Q E hq=>(Ei X.prog X.w).pyHash hu ⟨kb,db⟩ hq,fun tk Q E hq=>?_⟩;have ex:∃xs:List (T × VJ × U8),xs.length=ks.length/\∀(i:Nat) p e,ks[i]?=some p->es[i]?=some e->∃c,xs[i]?=some (p.1,c,e.val)/\e.key=.ref c/\cP s.heap p.1 (.ref c)/\kd 7 p.1=true:=by
   refine⟨(ks.zip es.toList).map fun z=>(z.1.1,(match z.2.key with|.ref c=>c|_=>0),z.2.val),by simp [D.hl],fun i p e e1 e2=>?_⟩;obtain⟨c,ec,kc,dc⟩:=wb I (U7.mp hf.2 _ (Vo (VN e1))) (D.h1 i p e e1 e2);refine⟨c,?_,ec,by rw [<- ec];exact kc,dc⟩;have ez:(ks.zip es.toList)[i]?=some (p,e):=List.getElem?_zip_eq_some.mpr ⟨e1,by simpa using e2⟩
   rw [Vs,ez];show some (p.1,(match e.key with|.ref c=>c|_=>0),e.val)=_
   rw [ec]
  obtain⟨xs,Qc,Qd⟩:=ex;have ME:∀(i:Nat) z,xs[i]?=some z->∃p e,ks[i]?=some p/\es[i]?=some e/\z=(p.1,z.2.1,e.val)/\e.key=.ref z.2.1/\cP s.heap p.1 (.ref z.2.1)/\kd 7 p.1=true:=fun i z hz=>by
   have hi:=(Vl.mp hz).1;have e1:=Ge9 (l:=ks) (i:=i) (by omega)
   obtain⟨e,e2⟩:=D.at e1;obtain⟨c,c1,c2,c3,c4⟩:=Qd i _ e e1 e2;rw [hz] at c1;cases c1;exact⟨_,e,e1,e2,rfl,c2,c3,c4⟩
  have keys:xs.map (·.1)=ks.map (·.1):=WJ (by simp [Qc]) fun i h1 h2=>by
   rw [Xk,Xk];have hi:i<xs.length:=by simpa using h1
   obtain⟨p,e,e1,_,e3,_⟩:=ME i _ (Ge9 hi);have:=(Vl.mp e1).2
   rw [e3,<- this]
  have R3:∀(j:Nat) (p:VJ × U8),xs[j]?=some (y,p)->pl ks y=some j:=fun j p hj=>by
   obtain⟨p',e,e1,_,e3,_⟩:=ME j _ hj;have ey:p'.1=y:=by injection e3 with e4;exact e4.symm
   obtain⟨R4,R5⟩:=Vl.mp e1;refine Wo.mpr ⟨R4,by rw [R5];exact decide_eq_true ey,fun i hi=>?_⟩;have ne:¬ ks[i].1=y:=fun z=>by
    have h1:(ks.map (·.1))[i]?=some y:=by rw [Vs,Ge9 (by omega)];exact congrArg some z
    have h2:(ks.map (·.1))[j]?=some y:=by rw [Vs,e1];exact congrArg some ey
    have:=(List.getElem?_inj (by simp;omega) D.hn).mp (h1.trans h2.symm);omega
   simpa using ne
  refine wpAny_dictFind_heap (knd:=Ei X.prog X.w) (xs:=xs) (s:={ s with toks:=tk }) hu ⟨kb,db⟩ D.ho D.hd ?_ (fun z hz=>?_) (by rw [keys];exact D.hn) (fun lU=>?_) fun j p hj=>?_
  ·refine WJ (by simp [Qc,D.hl]) fun i h1 h2=>?_
   have hi:i<xs.length:=by simpa using h2
   obtain⟨p,e,e1,e2,e3,e4,_⟩:=ME i _ (Ge9 hi);rw [Xk];have JK:es.toList[i]=e:=by
    have:=(Yc.mp e2).2;simpa using this
   rw [JK];have JL:=D.hh i p e e1 e2
   rw [e3];show e=⟨hT X.w p.1,.ref xs[i].2.1,e.val⟩
   rw [<- e4,<- JL]
  ·obtain⟨i,hi,rfl⟩:=WT hz
   obtain⟨p,e,_,_,e3,_,e5,e6⟩:=ME i _ (Ge9 hi);rw [e3];exact⟨e5,e6⟩
  ·have:pl ks y=none:=by
    refine Zz.mpr fun p hp=>?_
    obtain⟨i,hi,rfl⟩:=WT hp;obtain⟨e,e2⟩:=D.at (Ge9 hi);obtain⟨c,c1,_⟩:=Qd i _ e (Ge9 hi) e2;refine decide_eq_false fun z=>lU i (c,e.val) ?_
    rw [c1,z]
   rw [this] at hq;exact hq
  ·rw [R3 j p hj] at hq;exact hq
end
section
variable {X:Cx} {pins:bf} {φ:Fr} {g:G} {L L':aa} {s:Vc} {ks:List (T × T)} {t y x w:T} {u v:U8} {n:Nat} {a d:VJ} {A:VZ} {q:Option (VJ × VJ)} {E:U8->Vc->Prop} {o:Obj} {es:Array DictEntry} {ep:Nat}
theorem qi {i:Nat} (h:pl ks y=some i):∃p,ks[i]?=some p/\p.1=y/\dG ks y=some p.2:=by
 obtain⟨h1,h2,h3⟩:=Wo.mp h;refine⟨ks[i],Ge9 h1,of_decide_eq_true h2,?_⟩;have:(ks.find? fun p=>decide (p.1=y))=some ks[i]:=by
  rw [List.find?_eq_some_iff_getElem];exact⟨h2,i,h1,rfl,fun j hj=>by simpa using h3 j hj⟩
 unfold dG;rw [show(ks.find? fun p=>@decide (p.1=y) (Wf _))=some ks[i] from this];rfl
theorem qj (h:pl ks y=none):dG ks y=none/\∀p∈ks,p.1≠y:=by
 have h':=Zz.mp h;have h2:∀p∈ks,p.1≠y:=fun p hp=>of_decide_eq_false (h' p hp)
 refine⟨?_,h2⟩;have:(ks.find? fun p=>decide (p.1=y))=none:=WD.mpr fun p hp=>by simpa using h2 p hp
 unfold dG;rw [show(ks.find? fun p=>@decide (p.1=y) (Wf _))=none from this];rfl
noncomputable def JM (g:G) (o:Option U8) (x:Option T):Prop:=(o=none/\x=none)\/∃u t,o=some u/\x=some t/\RT g none t u
theorem bL.val (D:bL X g s ks a o es ep):JM g ((pl ks y).bind fun i=>es[i]?.map (·.val)) (dG ks y):=by
 cases e:pl ks y with
 | none=>exact .inl ⟨rfl,(qj e).1⟩
 | some i =>
  obtain⟨p,p1,p2,p3⟩:=qi e;obtain⟨d,d1⟩:=D.at p1;exact .inr ⟨d.val,p.2,by rw [Xl,d1];rfl,p3,D.h2 i p d p1 d1⟩
theorem bL.get (D:bL X g s ks a o es ep) (I:Inv X pins φ g L s) (hu:A.units+8<cLine) (hf:dR ks y) (ry:RT g none y v) {Q:Option U8->Vc->Prop} (h:∀tk u,JM g u (dG ks y)->Q u { s with toks:=tk }):Vq (model X.prog X.w) A (dictGet a v) Q E s:=by
 obtain⟨n,h1,h2⟩:=D.find I hu hf ry;unfold dictGet
 try with_reducible refine wpAny_holding ?_
 refine U0 (h1 _ _ (U0 (h2 _ _ _ ?_)));have z:=D.val (y:=y)
 cases e:pl ks y with
 | none=>rw [e] at z;exact U2 (h _ _ z)
 | some i=>rw [e] at z;exact U0 (wpAny_dictEntries (s:={ s with toks:=s.toks+n }) D.ho D.hd (U2 (h _ _ z)))
theorem bL.typeIs (D:bL X g s ks a o es ep):s.TypeIs (.ref a) "dict":=⟨o,D.ho,D.hx.1⟩
theorem bL.in (D:bL X g s ks a o es ep) (I:Inv X pins φ g L s) (hu:X.A.units+20<cLine) (hf:dR ks y) (ry:RT g none y v):(∀Q:U8->Vc->Prop,(∀tk,Q (.bool (dG ks y).isSome) { s with toks:=tk })->Vq (model X.prog X.w) X.A (compareOp .In v (.ref a)) Q F0 s) /\
  ∀Q:U8->Vc->Prop,(∀tk,Q (.bool (!(dG ks y).isSome)) { s with toks:=tk })->Vq (model X.prog X.w) X.A (compareOp .NotIn v (.ref a)) Q F0 s:=by
 have iA:X.A.in1.units+8<cLine:=by show X.A.units+1+8<cLine;omega
 have go:∀Q:Bool->Vc->Prop,(∀tk,Q (dG ks y).isSome { s with toks:=tk })->Vq (model X.prog X.w) X.A (contains (.ref a) v) Q F0 s:=fun Q h=>by
  unfold contains
  try with_reducible refine wpAny_holding ?_
  refine U0 (wpAny_specialOf D.typeIs slot_dict_contains.lookup ?_);show Vq _ _ (if (some (Y7 "dict.__contains__") == some Wr)=true then _ else _) _ _ s
  rw [if_neg (by rw [beq_builtin_none];exact Xm)];refine U0 (wpAny_callSpecialUnlessNone?_slot (name:=WC "__contains__") D.typeIs slot_dict_contains
   (wpAny_call_entry slot_dict_contains D.typeIs entry_dict_contains ?_ (args_dict_contains _ _)))
  show Vq _ _ (dictGet a v >>= _) _ _ s;refine U0 (D.get I iA hf ry fun tk u hu=>?_);rcases hu with⟨rfl,e⟩|⟨u,t,rfl,e,_⟩
  ·show Vq _ _ (Builtin.Dict.pendingKey? a v >>= _) _ _ _
   refine U0 (wpAny_pendingKey_other D.hs (U2 ⟨_,rfl,wpAny_truthy_bool ?_⟩));have:=h tk;rw [e] at this;exact this
  ·show Vq _ _ (PySem.ret (.bool true)) _ _ _
   refine U2 ⟨_,rfl,wpAny_truthy_bool ?_⟩;have:=h tk;rw [e] at this;exact this
 exact⟨fun Q h=>U0 (go _ fun tk=>U2 (h tk)),fun Q h=>U0 (go _ fun tk=>U2 (h tk))⟩
theorem bL.item (D:bL X g s ks a o es ep) (I:Inv X pins φ g L s) (hu:X.A.units+20<cLine) (hf:dR ks y) (ry:RT g none y v) (hx:dG ks y=some x) {Q:U8->Vc->Prop} (h:∀tk u,RT g none x u->Q u { s with toks:=tk }):Vq (model X.prog X.w) X.A (getItem (.ref a) v) Q F0 s:=by
 have iA:X.A.in1.units+8<cLine:=by show X.A.units+1+8<cLine;omega
 unfold getItem
 try with_reducible refine wpAny_holding ?_
 refine U0 (wpAny_sequenceKey D.typeIs (by decide) ?_);refine U0 (wpAny_callSpecial?_slot (name:=WC "__getitem__") D.typeIs slot_dict_getitem
  (wpAny_call_entry slot_dict_getitem D.typeIs entry_dict_getitem ?_ (args_dict_getitem _ _)))
 show Vq _ _ (dictGet a v >>= _) _ _ s;refine U0 (D.get I iA hf ry fun tk u hu=>?_);rcases hu with⟨rfl,e⟩|⟨u,t,rfl,e,r⟩
 ·rw [hx] at e;cases e
 ·rw [hx] at e;cases e
  exact U2 ⟨u,rfl,U2 (h tk u r)⟩
theorem zx {ks:List T} (h:gL (y::ks)=true):gL ks=true/\gL (ks++[y])=true:=by
 unfold gL at h ⊢;simp only [VU,XY,Ve,List.all_append,Zp,and_true] at h ⊢;rcases h with h|h
 ·exact⟨.inl h.2,.inl ⟨h.2,h.1⟩⟩
 ·exact⟨.inr h.2,.inr ⟨h.2,h.1⟩⟩
theorem fm (h:∀p∈ks,p.1≠y):dput ks y t=ks++[(y,t)]:=by
 unfold dput;rw [if_neg];intro z;obtain⟨p,hp,e⟩:=WK.mp z;exact h p hp (of_decide_eq_true e)
theorem zy {i:Nat} (hn:(ks.map (·.1)).Nodup) (h:pl ks y=some i):dput ks y t=ks.set i (y,t):=by
 obtain⟨h1,h2,h3⟩:=Wo.mp h;unfold dput;rw [if_pos (WK.mpr ⟨_,Vp h1,by rw [decide_eq_true (of_decide_eq_true h2)]⟩)];refine WJ (by simp) fun j j1 j2=>?_
 rw [Xk,List.getElem_set];have hj:j<ks.length:=by simpa using j1
 by_cases e:i=j
 ·subst e
  rw [if_pos rfl,if_pos (of_decide_eq_true h2),of_decide_eq_true h2]
 ·rw [if_neg e,if_neg]
  intro z;have hi':(ks.map (·.1))[i]?=some y:=by rw [Vs,Ge9 h1];exact congrArg some (of_decide_eq_true h2)
  have hj':(ks.map (·.1))[j]?=some y:=by rw [Vs,Ge9 hj];exact congrArg some z
  exact e ((List.getElem?_inj (by simpa using h1) hn).mp (hi'.trans hj'.symm))
theorem Inv.JN {p:VJ × VJ} {o':Obj} {gf:Array DictEntry} {IQ:Nat} {uC:List (T × T)} {h':Heap} {tk:Nat} (I:Inv X pins φ g L s) (hp:at_ g.α n=some p) (hk:g.H p.1=some (false,o)) (v7:p.2=p.1) (D:bL X g s ks p.1 o es ep) (keep:∀b v,b≠p.1->s.heap.get? b=some v->h'.get? b=some v) (new:h'.get? p.1=some o') (hx:o'.ExactDict) (hd:o'.data=.dict gf IQ)
  (hz:uC.length<=Vz) (hl:uC.length=gf.size) (hn:(uC.map (·.1)).Nodup) (hm:gL (uC.map (·.1))=true) (hh:∀(i:Nat) x e,uC[i]?=some x->gf[i]?=some e->e.hash=hT X.w x.1/\RT g none x.1 e.key/\RT g none x.2 e.val) :
  ∃g',Le g g'/\Inv X pins φ g' (put L n (.aU uC)) { s with heap:=h',toks:=tk }/\∀b,b≠p.1->g'.H b=g.H b:=by
 have l:=Le.set (o:=o') hk;refine⟨_,l,I.set (t':=tk) hp (.inl rfl) hk keep new ?_,fun b hb=>aA hb⟩;have ht:ua (some p) p.1 p.1:=.inr (congrArg some (Prod.ext rfl v7))
 exact .aU ht (.inl ar) hx hd hz hl ⟨hn,hm⟩ D.hs (fun i x e e1 e2=>by show e.hash=hT g.w x.1;rw [I.gw];exact(hh i x e e1 e2).1) (fun i x e e1 e2=>(hh i x e e1 e2).2.1.le l) fun i x e e1 e2=>(hh i x e e1 e2).2.2.le l
theorem Inv.wc (I:Inv X pins φ g L s) (ru:RT g none (.ref n) u) (hc:at_ L n=some (.aU ks)):∃p o es ep,u=.ref p.1/\at_ g.α n=some p/\p.2=p.1/\g.H p.1=some (false,o)/\bL X g s ks p.1 o es ep:=by
 obtain⟨p,hp,rc⟩:=I.rel.cells n _ hc;cases ru with
 | ref hq =>
  rw [hp] at hq;cases hq;obtain⟨a,o,es,ep,e,ht,hk,D⟩:=I.aU rc;have ea:p.1=a:=by injection e
  subst ea;refine⟨p,o,es,ep,rfl,hp,?_,?_,D⟩
  ·rcases ht with z|z
   ·cases z
   ·exact congrArg Prod.snd (WN z)
  ·rcases hk with hk|⟨z,_⟩
   ·exact hk
   ·cases z
theorem bL.new {p:VJ × VJ} {tk:Nat} (D:bL X g s ks p.1 o es ep) (I:Inv X pins φ g L s) (hp:at_ g.α n=some p) (v7:p.2=p.1) (hk:g.H p.1=some (false,o)) (hf:dR ks y) (hz:ks.length<Vz) (lU:pl ks y=none) (ry:RT g none y v) (rt:RT g none t u) :
  ∃g',Le g g'/\Inv X pins φ g' (put L n (.aU (dput ks y t))) { s with heap:=s.heap.update p.1 (Obj.mapDictKeys (·.push ⟨hT X.w y,v,u⟩)),toks:=tk }/\∀b,b≠p.1->g'.H b=g.H b:=by
 have hne:=(qj lU).2;rw [fm hne];refine I.JN hp hk v7 D (fun b v hb hv=>(VL s.heap _ (WA hb)).trans hv) (Wt _ D.ho (Obj.isFreed_of_dict (aaC D.hd _))) (D.hx.mapDictKeys _) (aaC D.hd _) (by simp;omega) (by simp [D.hl]) ?_ ?_ fun i x e e1 e2=>?_
 ·rw [Vk,WM]
  refine⟨D.hn,by simp,fun x hx y' hy=>?_⟩;obtain⟨q,hq,rfl⟩:=U6.mp hx;have:y'=y:=by simpa using hy
  rw [this];exact hne q hq
 ·rw [Vk];exact(zx hf).2
 ·rw [List.getElem?_append] at e1
  rw [Yq] at e2;split at e1
  ·rename_i hi
   rw [if_neg (by rw [<- D.hl];exact VB hi)] at e2;exact⟨D.hh i x e e1 e2,D.h1 i x e e1 e2,D.h2 i x e e1 e2⟩
  ·rename_i hi
   have Ej:i=es.size:=by
    have:=(Vl.mp e1).1;simp at this;have:=D.hl
    omega
   rw [if_pos Ej] at e2;cases e2;have e1':i - ks.length=0:=by have:=D.hl;omega
   rw [e1'] at e1;cases e1;exact⟨rfl,ry,rt⟩
theorem bL.old {p:VJ × VJ} {tk i:Nat} (D:bL X g s ks p.1 o es ep) (I:Inv X pins φ g L s) (hp:at_ g.α n=some p) (v7:p.2=p.1) (hk:g.H p.1=some (false,o)) (hi:pl ks y=some i) (rt:RT g none t u) :
  ∃g',Le g g'/\Inv X pins φ g' (put L n (.aU (dput ks y t))) { s with heap:=s.heap.update p.1 (Obj.mapDict (·.modify i fun e=>{ e with val:=u })),toks:=tk }/\∀b,b≠p.1->g'.H b=g.H b:=by
 rw [zy D.hn hi];obtain⟨q,q1,q2,_⟩:=qi hi;have keys:(ks.set i (y,t)).map (·.1)=ks.map (·.1):=by
  refine WJ (by simp) fun j h1 h2=>?_
  rw [Xk,Xk,List.getElem_set];by_cases e:i=j
  ·subst e
   rw [if_pos rfl,(Vl.mp q1).2,q2]
  ·rw [if_neg e]
 refine I.JN hp hk v7 D (fun b v hb hv=>(VL s.heap _ (WA hb)).trans hv) (Wt _ D.ho (Obj.isFreed_of_dict (Obj.data_mapDict D.hd _))) (D.hx.mapDict _) (Obj.data_mapDict D.hd _) (by simpa using D.hz) (by simp [D.hl]) (by rw [keys];exact D.hn) (by rw [keys];exact D.hm) fun j x e e1 e2=>?_
 rw [Array.getElem?_modify] at e2;rw [List.getElem?_set] at e1;by_cases ej:i=j
 ·subst ej
  rw [if_pos rfl] at e1 e2;obtain⟨e0,f1,f2⟩:=Vj.mp e2;have bQ:=(Vl.mp q1).1
  rw [if_pos bQ] at e1;cases e1;subst f2;exact⟨by rw [<- q2];exact D.hh i q e0 q1 f1,by rw [<- q2];exact D.h1 i q e0 q1 f1,rt⟩
 ·rw [if_neg ej] at e1 e2
  exact⟨D.hh j x e e1 e2,D.h1 j x e e1 e2,D.h2 j x e e1 e2⟩
theorem we {A:VZ} (I:Inv X pins φ g L s) (hu:A.units+8<cLine) (hc:at_ L n=some (.aU ks)) (rd:RT g none (.ref n) (.ref a)) (ry:RT g none y v) {tv:U8} (rt:RT g none t tv) (hz:ks.length<Vz) (hf:dR ks y) :
  Vq (model X.prog X.w) A (dictSet a v tv) (fun _ s'=>(∃g',Le g g'/\Inv X pins φ g' (put L n (.aU (dput ks y t))) s'/\∀b,b≠a->g'.H b=g.H b)/\∀b,b≠a->s'.heap.get? b=s.heap.get? b) E s:=by
 obtain⟨p,o,es,ep,ea,hp,v7,hk,D⟩:=I.wc rd hc;cases ea;obtain⟨m,h1,h2⟩:=D.find I hu hf ry;unfold dictSet
 try with_reducible refine wpAny_holding ?_
 refine U0 (h1 _ _ ?_);unfold dictSetHashed
 try with_reducible refine wpAny_holding ?_
 refine U0 (h2 _ _ _ ?_);cases e:pl ks y with
 | none =>
  exact U0 (wpAny_rule (wpAny_updateDictKeys (hz:=by have:=D.hl;omega) (s:={ s with toks:=s.toks+m }) D.ho D.hd ⟨D.new I hp v7 hk hf hz e ry rt,fun b hb=>VL s.heap _ (WA hb)⟩))
 | some i =>
  exact U0 (wpAny_rule (U0 (wpAny_updateDict (s:={ s with toks:=s.toks+m }) D.ho D.hd (wpAny_point ⟨D.old I hp v7 hk e rt,fun b hb=>VL s.heap _ (WA hb)⟩))))
theorem CD (I:Inv X pins φ g L s) (hu:X.A.units+20<cLine) (hc:at_ L n=some (.aU ks)) (rd:RT g none (.ref n) u) (ry:RT g none y v) {tv:U8} (rt:RT g none t tv) (hz:ks.length<Vz) (hf:dR ks y) :
  Vq (model X.prog X.w) X.A (setItem u v tv) (fun _ s'=>∃g',Le g g'/\Inv X pins φ g' (put L n (.aU (dput ks y t))) s') F0 s:=by
 have iA:X.A.in1.units+8<cLine:=by show X.A.units+1+8<cLine;omega
 obtain⟨p,o,es,ep,rfl,hp,v7,hk,D⟩:=I.wc rd hc;unfold setItem
 try with_reducible refine wpAny_holding ?_
 refine U0 (wpAny_sequenceKey D.typeIs (by decide) ?_);refine U0 (wpAny_callSpecial?_slot (name:=WC "__setitem__") D.typeIs slot_dict_setitem
  (wpAny_call_entry slot_dict_setitem D.typeIs entry_dict_setitem ?_ (args_dict_setitem _ _ _)))
 show Vq _ _ (Builtin.Dict.notOrdered "__setitem__" ⟨[.ref p.1,v,tv],[]⟩ >>= _) _ _ s;refine U0 (wpAny_notOrdered_dict D.typeIs ?_);show Vq _ _ (dictSet p.1 v tv >>= _) _ _ s
 refine U0 (wpAny_mono (we I iA hc rd ry rt hz hf) (fun _ s' ⟨⟨g',l,J,_⟩,_⟩=>U2 ⟨.none,rfl,U2 ⟨g',l,J⟩⟩) fun _ _ e=>e)
end
section
variable {X:Cx} {pins:bf} {φ:Fr} {g:G} {L:aa} {s:Vc} {xs ys:List T} {us vs:List U8} {e a b:Expr} {m ma mb:SE} {pos p2:Pos}
theorem GA {α:Type} {y:T} {f:Int->R α} {w:α} {L':aa} (h:(match y with|.int i=>f i|_=>.bad)=.ok w L'):∃i,y=.int i/\f i=.ok w L':=by
 cases y with
 | int i=>exact⟨i,rfl,h⟩
 | _=>cases h
theorem JO {α:Type} {y:T} {f:R α} {w:α} {L':aa} (h:(match y with|.b7=>f|_=>.bad)=.ok w L'):y=.b7/\f=.ok w L':=by
 cases y with
 | b7=>exact⟨rfl,h⟩
 | _=>cases h
theorem R6 {α:Type} {y:T} {f:Nat->R α} {w:α} {L':aa} (h:(match y with|.str [ch]=>f ch|_=>.bad)=.ok w L'):∃ch,y=.str [ch]/\f ch=.ok w L':=by
 split at h
 ·exact⟨_,rfl,h⟩
 ·cases h
theorem Ek (hu:X.A.units+20<cLine) {x y:T} {u v:U8} {k:Bool} {L':aa} (I:Inv X pins φ g L s) (rx:RT g none x u) (ry:RT g none y v) (h:oA x y L=.ok k L') :
  L'=L/\(∀Q:U8->Vc->Prop,(∀tk,Q (.bool k) { s with toks:=tk })->Vq (model X.prog X.w) X.A (compareOp .In u v) Q F0 s)/\∀Q:U8->Vc->Prop,(∀tk,Q (.bool (!k)) { s with toks:=tk })->Vq (model X.prog X.w) X.A (compareOp .NotIn u v) Q F0 s:=by
 obtain⟨p,vy⟩:=I.view ry;unfold oA at h;generalize vw L y=y' at h vy;have iA:X.A.in1.units+8<cLine:=by show X.A.units+1+8<cLine;omega
 cases y' with
 | str b =>
  obtain⟨ch,rfl,h⟩:=R6 h;cases h;obtain⟨_,rfl⟩:=rx.sI;obtain⟨_,rfl⟩:=vy.sI;exact⟨rfl,fun Q q=>in_str (by rw [vW];exact q s.toks),fun Q q=>notIn_str (by rw [vW];exact q s.toks)⟩
 | lst ys =>
  obtain⟨⟨h1,h2⟩,h⟩:=aC h;cases h;obtain⟨a,its,n,rfl,e,r,_⟩:=I.lst vy;obtain⟨f,f1,f2,_⟩:=qd I iA h1 rx h2 r;rw [<- f2,<- show its.any f=its.toList.any f by simp];exact⟨rfl,fun Q q=>SeqAt.in_listAt f (ah e) (fun w hw=>f1 w (by simpa using hw)) (q s.toks),fun Q q=>SeqAt.notIn_listAt f (ah e) (fun w hw=>f1 w (by simpa using hw)) (q s.toks)⟩
 | tup ys =>
  obtain⟨⟨h1,h2⟩,h⟩:=aC h;cases h;obtain⟨a,its,rfl,e,r,_⟩:=I.tupP vy;obtain⟨f,f1,f2,_⟩:=qd I iA h1 rx h2 r;rw [<- f2,<- show its.any f=its.toList.any f by simp];exact⟨rfl,fun Q q=>SeqAt.in_tupleAt f e (fun w hw=>f1 w (by simpa using hw)) (q s.toks),fun Q q=>SeqAt.notIn_tupleAt f e (fun w hw=>f1 w (by simpa using hw)) (q s.toks)⟩
 | aU ks =>
  obtain⟨h1,h⟩:=aC h;cases h;obtain⟨a,o,es,ep,rfl,_,_,D⟩:=I.aU vy;obtain⟨d1,d2⟩:=D.in I hu h1 rx;exact⟨rfl,fun Q q=>d1 Q q,fun Q q=>d2 Q q⟩
 | _=>cases h
theorem qk {op:CmpOp} (hu:X.A.units+20<cLine):yt X (compareOp op) (cmp op):=fun {pins φ g L s x y w L' u v} I rx ry h=>by
 obtain⟨k,h',rfl⟩:=p5 h;clear h;have fin:∀k,EP X pins φ g (.bl k) L (.bool k) s:=fun k=>I.ep (.bl k)
 cases op with
 | Eq =>
  obtain⟨h1,h2,rfl,rfl⟩:=Gm h';obtain⟨p,vx⟩:=I.view rx;obtain⟨q,vy⟩:=I.view ry;exact(I.rc 8 h1 h2 (by omega) vx vy).1 _ _ _ _ (fin _)
 | NotEq =>
  have h:Mt x y L=.ok k L':=h';unfold Mt at h;split at h
  ·obtain⟨_,rfl⟩:=rx.iI;obtain⟨_,rfl⟩:=ry.iI;cases h;exact ne_int (fin _)
  ·obtain⟨_,rfl⟩:=rx.sI;obtain⟨_,rfl⟩:=ry.sI;cases h;refine ne_str ?_;simp only [bne,str_beq];exact fin _
  ·cases h
 | Lt =>
  have h:Mu x y L=.ok k L':=h';unfold Mu at h;split at h
  ·obtain⟨_,rfl⟩:=rx.iI;obtain⟨_,rfl⟩:=ry.iI;cases h;exact lt_int (fin _)
  ·obtain⟨_,rfl⟩:=rx.sI;obtain⟨_,rfl⟩:=ry.sI;cases h;exact lt_str (fin _)
  ·cases h
 | Gt =>
  have h:Mw x y L=.ok k L':=h';unfold Mw at h;split at h
  ·obtain⟨_,rfl⟩:=rx.iI;obtain⟨_,rfl⟩:=ry.iI;cases h;exact gt_int (fin _)
  ·cases h
 | LtE =>
  have h:Fb x y L=.ok k L':=h';unfold Fb at h;split at h
  ·obtain⟨_,rfl⟩:=rx.iI;obtain⟨_,rfl⟩:=ry.iI;cases h;exact le_int (fin _)
  ·cases h
 | GtE =>
  have h:Fb y x L=.ok k L':=h';unfold Fb at h;split at h
  ·obtain⟨_,rfl⟩:=rx.iI;obtain⟨_,rfl⟩:=ry.iI;cases h;exact ge_int (fin _)
  ·cases h
 | Is =>
  obtain⟨rfl,h'⟩:=JO h';obtain rfl:=ry.nI;cases h';exact is_none_gen (by rw [yT rx];exact fin _)
 | IsNot =>
  obtain⟨rfl,h'⟩:=JO h';obtain rfl:=ry.nI;cases h';exact isnot_none_gen (by rw [yT rx];exact fin _)
 | In =>
  obtain⟨rfl,a,_⟩:=Ek hu I rx ry h';exact a _ fun tk=>(I.tok tk).ep (.bl _)
 | NotIn =>
  obtain⟨k,h2,rfl⟩:=p5 h';obtain⟨rfl,_,a⟩:=Ek hu I rx ry h2;exact a _ fun tk=>(I.tok tk).ep (.bl _)
theorem JP (hu:X.A.units+20<cLine) (hb:xr b=true):yt X (fun o i=>subscriptTail a b o i) ix:=fun {pins φ g L s x y w L' u v} I rx ry h=>by
 obtain⟨p,vx⟩:=I.view rx;have hn:=uA
 unfold ix at h;generalize vw L x=x' at h vx;have hs:=fun o i=>yV hb o i
 cases x' with
 | str z =>
  obtain⟨i,rfl,h⟩:=GA h;obtain⟨q1,rfl⟩:=iW h;obtain⟨ch,q2,rfl⟩:=Vj.mp q1;obtain⟨j,hj,hc⟩:=W7.mp q2;obtain⟨h1,h2,h3,h4,_⟩:=nq hj;obtain⟨_,rfl⟩:=ry.iI;obtain⟨t,rfl,hz⟩:=vx.ju
  ·have hl:(⟨z.toArray⟩:Str).length=z.length:=by show z.toArray.size=_;simp
   exact tail_any (typeIs_str s _ t) slot_str_getitem.lookup (getItem_str (c:=ch) (by
    have e1:decide (i < -(2 ^ 63:Int))=false:=decide_eq_false (by omega);have e2:decide (i≥2 ^ 63)=false:=decide_eq_false (by omega)
    rw [e1,e2,Bool.or_false]) (by rw [hl,h1];simpa using hc) ((I.tok _).ep (.str [ch] _ (by show 1<=Vz;decide)))) (hs _ _)
 | tup xs =>
  obtain⟨i,rfl,h⟩:=GA h;obtain⟨q1,rfl⟩:=iW h;obtain⟨j,hj,hc⟩:=W7.mp q1;obtain⟨h1,h2,h3,h4,_⟩:=nq hj;obtain⟨_,rfl⟩:=ry.iI;obtain⟨a,its,rfl,e,r,hz⟩:=I.tupP vx;obtain⟨u,hu,ru⟩:=ub r hc;have hl:xs.length=its.size:=by have:=Vr r;simp at this;omega
  exact subscriptTail_builtinR (x:=u) e.typeIs slot_tuple_getitem.lookup
   (getItem_tuple (j:=j) (Q:=fun r s'=>r=u/\EP X pins φ g w L' r s') e (by omega) (by omega) (by rw [<- hl];exact h1) (by simpa using hu) ⟨rfl,I.ep ru⟩) (hs _ _)
 | lst xs =>
  obtain⟨i,rfl,h⟩:=GA h;obtain⟨q1,rfl⟩:=iW h;obtain⟨j,hj,hc⟩:=W7.mp q1;obtain⟨h1,h2,h3,h4,h5⟩:=nq hj;obtain⟨_,rfl⟩:=ry.iI;obtain⟨a,its,n,rfl,e,r,hz⟩:=I.lst vx;obtain⟨u,hu,ru⟩:=ub r hc;have hl:xs.length=its.size:=by have:=Vr r;simp at this;omega
  rcases h5 with⟨h0,hj⟩|⟨h0,hj⟩
  ·exact item_listR (ah e) h0 (by omega) (by rw [hj];simpa using hu) (I.ep ru) (hs _ _)
  ·exact subscriptTail_builtinR (x:=u) (ah e).typeIs slot_list_getitem.lookup
    (wpAny_getItem_list_neg (Q:=fun r s'=>r=u/\EP X pins φ g w L' r s') (ah e) (by omega) (by omega) (by omega) (by rw [<- hl,hj];simpa using hu) ⟨rfl,I.ep ru⟩) (hs _ _)
 | aU ks =>
  obtain⟨h1,q1⟩:=aC h;obtain⟨q2,rfl⟩:=iW q1;obtain⟨d,o,es,ep,rfl,_,_,D⟩:=I.aU vx;exact tail_any D.typeIs slot_dict_getitem.lookup (D.item I hu h1 ry q2 fun tk u r=>(I.tok tk).ep r) (hs _ _)
 | _=>cases h
theorem bL.kZ {a:VJ} {o:Obj} {es:Array DictEntry} {ep:Nat} {ks:List (T × T)} (D:bL X g s ks a o es ep) (h:(ks.map (·.1)).all kZ=true):∃kvs,s.heap.DictAt (ig X.prog X.w) a kvs ep/\kvs.length=ks.length/\kvs.map (·.1)=ks.map (·.1):=by
 have sc:∀(i:Nat) p e,ks[i]?=some p->es[i]?=some e->zw p.1 e.key=true:=fun i p e e1 e2 =>
  mH (U7.mp h _ (Vo (VN e1))) (D.h1 i p e e1 e2)
 have go:∀(l:List DictEntry) (ks:List (T × T)),ks.length=l.length->(∀(i:Nat) p e,ks[i]?=some p->l[i]?=some e->zw p.1 e.key=true)->∃kvs,Pairs (ig X.prog X.w) l kvs/\kvs.length=ks.length/\kvs.map (·.1)=ks.map (·.1):=fun l=>by
  induction l with
  | nil=>intro ks hl _;cases ks with
   | nil=>exact⟨[],.nil,rfl,rfl⟩
   | cons _ _=>cases hl
  | cons e l ih=>intro ks hl h;cases ks with
   | nil=>cases hl
   | cons p ks =>
    obtain⟨kvs,k1,k2,k3⟩:=ih ks (by simpa using hl) fun i p e e1 e2=>h (i+1) p e (by simpa using e1) (by simpa using e2)
    exact⟨(p.1,e.val)::kvs,.cons (h 0 p e rfl rfl) rfl k1,by simp [k2],by simp [k3]⟩
 obtain⟨kvs,k1,k2,k3⟩:=go es.toList ks (by simpa using D.hl) fun i p e e1 e2=>sc i p e e1 (by simpa using e2)
 refine⟨kvs,⟨o,es,D.ho,D.hx,D.hd,fun e he=>?_,k1,by rw [k3];exact D.hn⟩,k2,k3⟩;obtain⟨i,hi,rfl⟩:=W6 he;have e1:=Ge9 (l:=ks) (i:=i) (by rw [D.hl];exact hi)
 exact⟨_,sc i _ _ e1 (Vf hi),D.hh i _ _ e1 (Vf hi)⟩
theorem zA {t:T} {u v:U8} (h:zw t v=true) (r:RT g none t u):RT g none t v:=by
 rcases gi h with⟨i,k,rfl,rfl⟩|⟨z,k,rfl,rfl⟩
 ·exact .int _ _
 ·obtain⟨_,_,hz⟩:=r.ju;exact .str _ _ hz
theorem GB (hu:X.A.units+20<cLine):zi X "dict.get" je:=fun {_ _ g _ s _ _ _ _ _ _} I rx rv h=>by
 have iA:X.A.in1.units+8<cLine:=by show X.A.units+1+8<cLine;omega
 unfold je at h;split at h
 ·rename_i ks y t ev
  obtain⟨h1,h⟩:=aC h;cases h;obtain⟨p,v⟩:=I.view rx;rw [ev] at v;obtain⟨a,o,es,ep,rfl,_,_,D⟩:=I.aU v;obtain⟨u1,u2,rfl,r1,r2⟩:=lr rv;have M:MeetsIn X.prog X.w (Builtin.«dict.get» ⟨[.ref a,u1,u2],[]⟩) (fun A R s'=>A=X.A/\s'=s/\∀tk u,RT g none ((dG ks y).getD t) u->R (.ok (.ret u)) { s with toks:=tk }) :=
   .of_wp fun A R s' ⟨eA,gf,h⟩=>by
    subst eA gf;show Vq _ _ (dictGet a u1 >>= _) _ _ _
    refine U0 (D.get I iA h1 r1 fun tk u hu=>?_);rcases hu with⟨rfl,e⟩|⟨u,z,rfl,e,r⟩
    ·rw [e] at h
     show Vq _ _ (Builtin.Dict.missed a u1 >>= _) _ _ _;exact U0 (wpAny_missed_other D.hs (U2 ⟨u2,rfl,h tk u2 r2⟩))
    ·rw [e] at h
     exact U2 ⟨u,rfl,h tk u r⟩
  exact call_meetsIn aay D.typeIs PySem.F.entry_dict_get (PySem.F.args_dict_get_3 _ _ _) M ⟨rfl,rfl,fun tk u r=>(I.tok tk).ep r⟩
 ·cases h
theorem GC (hu:X.A.units+20<cLine):zi X "dict.setdefault" yp:=fun {pins φ g L s _ _ _ _ _ _} I rx rv h=>by
 have iA:X.A.in1.units+8<cLine:=by show X.A.units+1+8<cLine;omega
 unfold yp at h;split at h
 ·split at h
  ·rename_i n y t _ ks ea
   obtain⟨⟨hz,h1⟩,h⟩:=aC h;obtain⟨p,o,es,ep,rfl,hp,v7,hk,D⟩:=I.wc rx ea;obtain⟨u1,u2,rfl,r1,r2⟩:=lr rv;obtain⟨m,f1,f2⟩:=D.find I iA h1 r1;have hz:ks.length<Vz:=hz
   have M:MeetsIn X.prog X.w (Builtin.«dict.setdefault» ⟨[.ref p.1,u1,u2],[]⟩) (fun A R s'=>A=X.A/\s'=s/\(∀tk u x,dG ks y=some x->RT g none x u->R (.ok (.ret u)) { s with toks:=tk })/\(dG ks y=none->∀s',(∃g',Le g g'/\Inv X pins φ g' (put L n (.aU (dput ks y t))) s')->R (.ok (.ret u2)) s')) :=
    .of_wp fun A R s' ⟨eA,gf,h1',h2'⟩=>by
     subst eA gf;unfold Builtin.«dict.setdefault»;refine U0 ?_;unfold Builtin.Dict.keyAndDefault;refine U0 (wpAny_notOrdered_dict D.typeIs ?_);show Vq _ _ (pure (p.1,u1,some u2)) _ _ _
     refine U2 ?_;show Vq _ _ (if (p.1 == sysModules)=true then _ else (dictSetDefault p.1 u1 u2 >>= _)) _ _ _
     rw [if_neg (by rw [D.hs];exact Xm)];refine U0 ?_;unfold dictSetDefault
     try with_reducible refine wpAny_holding ?_
     refine U0 (f1 _ _ (U0 (f2 _ _ _ ?_)));cases e:pl ks y with
     | none =>
      exact U0 (wpAny_rule (U0 (wpAny_updateDictKeys (hz:=by have:=D.hl;omega) (s:={ s' with toks:=s'.toks+m }) D.ho D.hd (U2 (U2 ⟨u2,rfl,h2' (qj e).1 _ (let ⟨g',l,J,_⟩:=D.new I hp v7 hk h1 hz e r1 r2;⟨g',l,J⟩)⟩)))))
     | some i =>
      obtain⟨q,q1,q2,q3⟩:=qi e;obtain⟨d,d1⟩:=D.at q1;refine U0 (wpAny_dictEntries (s:={ s' with toks:=s'.toks+m }) D.ho D.hd ?_);rw [d1];exact U0 (wpAny_rule (U2 (U2 ⟨d.val,rfl,h1' _ _ _ q3 (D.h2 i q d q1 d1)⟩)))
   refine call_meetsIn Y8 D.typeIs PySem.F.entry_dict_setdefault (PySem.F.args_dict_setdefault_3 _ _ _) M ⟨rfl,rfl,fun tk u x e r=>?_,fun e s' ⟨g',l,J⟩=>?_⟩
   ·simp only [e] at h
    cases h;exact(I.tok tk).ep r
   ·simp only [e] at h
    cases h;exact⟨g',l,J,r2.le l⟩
  ·cases h
 ·cases h
theorem xt {fz:Bool}:dS X (.type "list") (cF fz):=fun {_ _ g _ s _ _ _ _} I r h=>by
 unfold cF at h;split at h
 ·obtain⟨u,rfl,ru⟩:=bM r
  split at h
  ·exact vZ I ru (.inr (by assumption)) h
  ·exact vZ I ru (.inl (by assumption)) h
  ·rename_i ks ev
   obtain⟨h1,h⟩:=aC h;obtain⟨p,v⟩:=I.view ru;rw [ev] at v;obtain⟨a,o,es,ep,rfl,_,_,D⟩:=I.aU v;obtain⟨kvs,dk,hl,hk⟩:=D.kZ h1;refine PySem.W.kdl_call (PySem.W.kdl_dict (knd:=ig X.prog X.w) (kvs:=kvs) (ep:=ep) D.hs) I.ok.hd dk (by have:=D.hz;omega) fun h' tk acc c' kp hg nv=>?_
   refine lh (t':=tk) (n:=c') (us:=acc.toList) I (dH ?_ fun i x v e1 e2=>?_) h kp (by simpa using hg)
   ·have:acc.size=kvs.length:=nv.1
    rw [Lm9,<- hl];simpa using this.symm
   ·obtain⟨k,z,f1,f2⟩:=nv.2 i v (by rw [<- YV];exact e2)
    have ek:(kvs.map (·.1))[i]?=some k:=by rw [Vs,f1];rfl
    rw [hk,e1] at ek;cases ek;rw [Vs] at e1;obtain⟨q,q1,q2⟩:=Vj.mp e1;obtain⟨e,e3⟩:=D.at q1;refine zA f2 (u:=e.key) ?_;rw [<- q2];exact D.h1 i q e q1 e3
  ·cases h
 ·cases h
theorem CF {i:Expr} (h:xr i=true):∀ov iv new,augStore i ov iv new=(do holding [new,ov,iv] (setItem ov iv new);release [new,ov,iv] [];pure .next):=fun _ _ _=>by
 cases i <;> first|rfl|cases h
theorem set_list {Md:Wh} {w:Xg} {A:VZ} {E:U8->Vc->Prop} {l:VJ} {items:Array U8} {n:Nat} {k:Int} {t:Tok} {v:U8} {Q:Unit->Vc->Prop} (ho:s.heap.get? l=some { cls:=.type "list",data:=.seq items n }) (h0:0<=k) (hfit:k<2 ^ 63) (hn:k<items.size)
  (hQ:Q () { s with heap:=s.heap.update l (Wx (·.setIfInBounds k.toNat v)) }):Vq (model Md w) A (setItem (.ref l) (.int k t) v) Q E s:=by
 have hl:=ah ho;unfold setItem
 try with_reducible refine wpAny_holding ?_
 first|refine U0 (U2 ?_)|skip
 refine U0 (wpAny_sequenceKey hl.typeIs (by decide) ?_);refine U0 (wpAny_callSpecial?_slot (name:=WC "__setitem__") hl.typeIs slot_list_setitem
  (wpAny_call_entry slot_list_setitem hl.typeIs entry_list_setitem ?_ (args_list_setitem _ _ _)))
 show Vq _ _ (Builtin.List.listSubscript? (.int k t) >>= _) _ _ s;refine U0 (wpAny_listSubscript_int (fitsIndex_of h0 hfit) ?_);clear hfit;obtain⟨j,rfl⟩:=Int.eq_ofNat_of_zero_le h0;have hj:j<items.size:=by omega
 have hx':items[j]?=some items[j]:=Vf hj;show Vq _ _ ((seqItemAt l j >>= fun r=>pure (r.map (j,·))) >>= _) _ _ s
 refine U0 (U0 (wpAny_seqItemAt ho rfl (U2 ?_)));rw [hx'];show Vq _ _ (setSeqItemAt l j v >>= _) _ _ s
 refine U0 (wpAny_setSeqItemAt ho rfl ?_)
 first
  | exact U0 (U2 (U2 ⟨.none,rfl,U2 hQ⟩))
  | exact U2 ⟨.none,rfl,U2 hQ⟩
theorem cG.set {i:Nat} {t:T} {u:U8} (h:cG g xs us) (r:RT g none t u):∀i,cG g (xs.set i t) (us.set i u):=by
 induction h with
 | nil=>intro i;simp;exact .nil
 | cons a b ih=>intro i;cases i with
  | zero=>exact .cons r b
  | succ i=>exact .cons a (ih i)
theorem qm (hu:X.A.units+20<cLine) {x y t:T} {xv yv tv:U8} {L':aa} (I:Inv X pins φ g L s) (rx:RT g none x xv) (ry:RT g none y yv) (rt:RT g none t tv) (h:jK x y t L=some L'):Vq (model X.prog X.w) X.A (setItem xv yv tv) (fun _ s'=>SP X pins g (.nx φ L') .next s') F0 s:=by
 unfold jK at h;split at h
 ·split at h
  ·split at h
   ·rename_i hc
    cases h;exact thn (CD I hu (by assumption) rx ry rt hc.1 hc.2) fun _ s' z=>z
   ·cases h
  ·rename_i ea
   split at h
   ·split at h
    ·rename_i hc
     cases h;obtain⟨_,rfl⟩:=ry.iI;obtain⟨a,its,cnt,rfl,e,rr,hl,hz⟩:=I.v8 rx ea;have hn:=uA
     refine set_list e hc.1 (by omega) (by omega) ?_;obtain⟨g',l,J,_⟩:=I.rP (t':=s.toks) (f:=(·.setIfInBounds _ tv)) ea rx e (by simpa using rr.set rt (i:=0) _) (by simpa using hz);exact⟨g',l,J⟩
    ·cases h
   ·cases h
  ·cases h
 ·cases h
theorem CG {o i:Expr} {mo mi:SE} (hu:X.A.units+20<cLine) (ho:PE X o mo) (hi:PE X i mi) (he:PE X e m) (hs:jg e=true):PS X (.Assign [.Subscript o i p2] e pos) (oB mo mi m):=fun {pins φ g L s} I h=>by
 obtain⟨t,L1,e1,q1,h⟩:=iw h;rw [show oB mo mi m φ L=_ from q1];obtain⟨x,L2,e2,q2,h⟩:=iw h;rw [q2];obtain⟨y,L3,e3,q3,h⟩:=iw h;rw [q3];cases ep:jK x y t L3 with
 | none=>simp only [ep] at h;exact absurd rfl h
 | some L4 =>
  simp only [ep];exact wpAny_Assign_Subscript (thn (he I e1) fun tv s1 ⟨g1,l1,I1,r1⟩=>thn (ho I1 e2) fun xv s2 ⟨g2,l2,I2,r2⟩=>thn (hi I2 e3) fun yv s3 ⟨g3,l3,I3,r3⟩ =>
   thn (qm hu I3 (r2.le l3) r3 (r1.le (l2.trans l3)) ep) fun _ s4 z=>z.le ((l1.trans l2).trans l3)) (jM hs)
theorem CH {o i:Expr} {mo mi:SE} {op:Operator} (hu:X.A.units+20<cLine) (ho:PE X o mo) (hi:PE X i mi) (he:PE X e m) (hx:xr i=true):PS X (.AugAssign (.Subscript o i p2) op e pos) (ym op mo mi m):=fun {pins φ g L s} I h=>by
 obtain⟨x,L1,e1,q1,h⟩:=iw h;rw [show ym op mo mi m φ L=_ from q1];obtain⟨y,L2,e2,q2,h⟩:=iw h;rw [q2];obtain⟨z,L3,e3,q3,h⟩:=iw h;rw [q3];obtain⟨t,L4,e4,q4,h⟩:=iw h;rw [q4];obtain⟨r,L5,e5,q5,h⟩:=iw h;rw [q5];cases ep:jK x y r L5 with
 | none=>simp only [ep] at h;exact absurd rfl h
 | some L6 =>
  simp only [ep];refine wpAny_AugAssign_Subscript_any (thn (ho I e1) fun xv s1 ⟨g1,l1,I1,r1⟩=>thn (hi I1 e2) fun yv s2 ⟨g2,l2,I2,r2⟩=>?_) (CF hx);have hg:Vq (model X.prog X.w) X.A (getItem xv yv) (EP X pins φ g2 z L3) F0 s2:=by
   unfold Jl at e3;obtain⟨p,v⟩:=I2.view (r1.le l2);split at e3
   ·rename_i ev
    rw [ev] at v;obtain⟨h1,k1⟩:=aC e3;obtain⟨k2,k3⟩:=iW k1;subst k3;obtain⟨d,o,es,ep,rfl,_,_,D⟩:=I2.aU v;exact D.item I2 hu h1 r2 k2 fun tk u r=>(I2.tok tk).ep r
   ·cases e3
  exact thn hg fun zv s3 ⟨g3,l3,I3,r3⟩=>thn (he I3 e4) fun tv s4 ⟨g4,l4,I4,r4⟩=>thn (yS I4 (r3.le l4) r4 e5) fun rv s5 ⟨g5,l5,I5,r5⟩ =>
   thn (qm hu I5 ((r1.le l2).le ((l3.trans l4).trans l5)) (r2.le ((l3.trans l4).trans l5)) r5 ep) fun _ s6 w=>w.le ((((l1.trans l2).trans l3).trans l4).trans l5)
theorem GD {fz:Bool} {ks:List (T × T)} {o:Obj} {es:Array DictEntry} {ep tk:Nat} {h':Heap} {w:T} {L2:aa} (I:Inv X pins φ g L s) (h:mk fz (.aU ks) L=.ok w L2) (k:∀b u,s.heap.get? b=some u->h'.get? b=some u) (new:h'.get? s.heap.objs.size=some o) (hx:o.ExactDict) (hd:o.data=.dict es ep)
  (hz:ks.length<=Vz) (hl:ks.length=es.size) (hn:(ks.map (·.1)).Nodup) (hm:gL (ks.map (·.1))=true) (hh:∀(i:Nat) x e,ks[i]?=some x->es[i]?=some e->e.hash=hT X.w x.1/\RT g none x.1 e.key/\RT g none x.2 e.val) :
  EP X pins φ g w L2 (.ref s.heap.objs.size) { s with heap:=h',toks:=tk }:=by
 have big:(s.heap.objs.size == sysModules)=false:=by
  have h1:sysModules<s.heap.objs.size:=Xa (by decide) (I.mod.glob.keeps I.bk).lt;simpa using We h1
 have rt:∀(g1:G) (q:Option (VJ × VJ)),Le g g1->ua q s.heap.objs.size s.heap.objs.size->g1.kn q.isNone s.heap.objs.size o->RT g1 q (.aU ks) (.ref s.heap.objs.size):=fun g1 q l ht hk =>
  .aU ht hk hx hd hz hl ⟨hn,hm⟩ big (fun i x e e1 e2=>by rw [l.w,I.gw];exact(hh i x e e1 e2).1) (fun i x e e1 e2=>(hh i x e e1 e2).2.1.le l) fun i x e e1 e2=>(hh i x e e1 e2).2.2.le l
 unfold mk at h;split at h
 ·cases h
  exact⟨_,Le.lay I.fresh,I.laid k (Vm _) new,rt _ none (Le.lay I.fresh) (.inl rfl) (.inl ar)⟩
 ·cases h
  refine⟨_,Le.new I.fresh,I.new k (Vm _) new (rt _ _ (Le.new I.fresh) (.inr rfl) (.inl ar)),?_⟩;have:=I.rel.len
  exact .ref (p:=(s.heap.objs.size,s.heap.objs.size)) (by show at_ ((_,_)::g.α) _=_;rw [<- this];exact fk)
theorem CI {fz:Bool}:PE X (.Dict [] [] pos) (xh fz):=fun {_ _ _ _ s _ _} I h =>
 wpAny_Dict_empty (GD (tk:=s.toks) I h (fun b u e=>U1 _ e) (U9 _ rfl) ⟨rfl,rfl,rfl⟩ rfl (VK _) rfl Xt rfl fun i x e e1 _=>by simp at e1)
end
theorem GF {prog:Wh} {w:Xg} {A:VZ} {E:U8->Vc->Prop} {s:Vc} {a:VJ} {o:Obj} {xs:Array U8} {k:Nat} {Q:Option U8->Vc->Prop}
  (hx:s.heap.get? a=some o) (hc:o.cls=.type "list") (JQ:o.data=.seq xs k) (hd:o.dict=none) (hA:A.handled=none)
  (h:∀h' tk e,aaT s.heap h' e "AttributeError"->Q none { s with heap:=h',toks:=tk }) :
  Vq (model prog w) A (getAttr? (.ref a) "keys") Q E s:=by
 obtain⟨c,aU,dat,sl⟩:=o;simp only at hc JQ hd;subst hc JQ hd;obtain⟨hp,g,d,tk,os⟩:=s;have hT:∀tk',(⟨hp,g,d,tk',os⟩:Vc).TypeIs (.ref a) "list":=fun _=>⟨_,hx,rfl⟩
 have f1:=sub_AttributeError;have f3:=XD.lookup
 have f4:=XD.bind (.ref a);have f5:=am_list_getattr_none
 have hmiss:typeLookup (.type "list") "keys"=pure none:=by rw [typeLookup_type,builtinLookup_eq_fast];kernel_rfl
 unfold getAttr? getAttrBy? getAttrBy
 repeat (any_goals (first|assumption|exact hT _|((with_reducible show Vq _ _ (call (Y7 "list.__getattribute__") _ _) _ _ _);refine call_meets XD (hT _) am_entry_list_getattribute (PySem.F.args_list_getattribute_2 _ _) (meets_getattribute_miss_list a xs k sl "keys" _ hmiss (by decide +kernel) (by decide)) ⟨hx,hA,fun h' tk' e hx'=>?_⟩)|wp_step))
 obtain⟨t',u',he⟩:=hx'.there;show Vq _ _ (getattributeRaised _ _ _ _ _ _ _) _ _ _
 unfold getattributeRaised
 repeat (any_goals (first|assumption|wp_step))
 exact h _ _ _ hx'.of
theorem noKeysT {prog:Wh} {w:Xg} {A:VZ} {E:U8->Vc->Prop} {s:Vc} {a:VJ} {xs:Array U8} {k:Nat} {sl:Array (Option U8)} {Q:Option U8->Vc->Prop}
  (hx:s.heap.get? a=some ⟨.type "tuple",none,.seq xs k,sl⟩) (hA:A.handled=none)
  (h:∀h' tk e,aaT s.heap h' e "AttributeError"->Q none { s with heap:=h',toks:=tk }) :
  Vq (model prog w) A (getAttr? (.ref a) "keys") Q E s:=by
 obtain⟨hp,g,d,tk,os⟩:=s;have hT:∀tk',(⟨hp,g,d,tk',os⟩:Vc).TypeIs (.ref a) "tuple":=fun _=>⟨_,hx,rfl⟩
 have f1:=sub_AttributeError;have f3:=Xy.lookup
 have f4:=Xy.bind (.ref a);have f5:=am_tuple_getattr_none
 have hmiss:typeLookup (.type "tuple") "keys"=pure none:=by rw [typeLookup_type,builtinLookup_eq_fast];kernel_rfl
 unfold getAttr? getAttrBy? getAttrBy
 repeat (any_goals (first|assumption|exact hT _|((with_reducible show Vq _ _ (call (Y7 "tuple.__getattribute__") _ _) _ _ _);refine call_meets Xy (hT _) am_entry_tuple_getattribute (PySem.F.args_tuple_getattribute_2 _ _) (meets_getattribute_miss_tuple a xs k sl "keys" _ hmiss (by decide +kernel) (by decide)) ⟨hx,hA,fun h' tk' e hx'=>?_⟩)|wp_step))
 obtain⟨t',u',he⟩:=hx'.there;show Vq _ _ (getattributeRaised _ _ _ _ _ _ _) _ _ _
 unfold getattributeRaised
 repeat (any_goals (first|assumption|wp_step))
 exact h _ _ _ hx'.of
theorem entry_dul:entryFor table "dict.update.loop"=some Builtin.«dict.update.loop»:=entryFor_of_tree (by kernel_rfl)
theorem plain_dul:plainId "dict.update.loop"=true:=by decide +kernel
theorem prsOf_at:∀{ys:List T} {ps:List (T × T)},prsOf ys=some ps->ys.length=ps.length/\∀(i:Nat) p,ps[i]?=some p->ys[i]?=some (.tup [p.1,p.2])
 | [],ps,h=>by cases h;exact⟨rfl,fun i p e=>by simp at e⟩
 | y::ys,ps,h=>by
  unfold prsOf at h;split at h
  ·rename_i k x UI h2
   cases h;obtain⟨h3,h4⟩:=prsOf_at h2;refine⟨by simp [h3],fun i p e=>?_⟩;cases i with
   | zero=>cases e;rfl
   | succ i=>exact h4 i p (by simpa using e)
  ·cases h
theorem zB (ks:List (T × T)) (y t:T):(dput ks y t).length<=ks.length+1:=by
 unfold dput;split
 ·simp
 ·simp
theorem xu {ks:List (T × T)} {y t:T} {q:T->Prop} (h:∀p∈ks,q p.1) (hy:q y):∀p∈dput ks y t,q p.1:=by
 unfold dput;split
 ·intro p hp
  obtain⟨p',h1,rfl⟩:=U6.mp hp;split
  ·exact h p' h1
  ·exact h p' h1
 ·intro p hp
  rcases Vd.mp hp with h1|h1
  ·exact h p h1
  ·have:p=(y,t):=by simpa using h1
   rw [this];exact hy
theorem CJ (ps:List (T × T)):(rB ps).length<=ps.length:=by
 have key:∀(ps acc:List (T × T)),(ps.foldl (fun acc p=>dput acc p.1 p.2) acc).length<=acc.length+ps.length:=by
  intro ps;induction ps with
  | nil=>intro acc;simp
  | cons p r ih =>
   intro acc;have z:=ih (dput acc p.1 p.2)
   have z2:=zB acc p.1 p.2;rw [Yy,Vb];omega
 have:=key ps [];unfold rB;simpa using this
theorem zC {ps:List (T × T)} {q:T->Prop} (h:∀p∈ps,q p.1):∀p∈rB ps,q p.1:=by
 have key:∀(ps acc:List (T × T)),(∀p∈ps,q p.1)->(∀p∈acc,q p.1)->∀p∈ps.foldl (fun acc p=>dput acc p.1 p.2) acc,q p.1:=by
  intro ps;induction ps with
  | nil=>intro acc _ h;exact h
  | cons p r ih =>
   intro acc h1 h2;exact ih _ (fun p hp=>h1 p (U5 _ hp)) (xu h2 (h1 p U4))
 exact key ps [] h fun p hp=>by simp at hp
theorem zD {ps:List (T × T)} {i:Nat} {p:T × T} (h:ps[i]?=some p):rB (ps.take (i+1))=dput (rB (ps.take i)) p.1 p.2:=by
 unfold rB;rw [aaH,h,List.foldl_append];rfl
theorem zE {ps:List (T × T)} {i:Nat} {p:T × T} (hm:gL (ps.map (·.1))=true) (h:ps[i]?=some p):dR (rB (ps.take i)) p.1:=by
 unfold dR;unfold gL at hm ⊢;rw [XY] at hm ⊢;have part:∀(f:T->Bool),(ps.map (·.1)).all f=true->(p.1::(rB (ps.take i)).map (·.1)).all f=true:=fun f hf=>by
  have hf:=U7.mp hf;refine U7.mpr fun x hx=>?_
  rcases Vn.mp hx with rfl|hx
  ·exact hf _ (Vo (VN h))
  ·obtain⟨q,hq,rfl⟩:=U6.mp hx
   exact zC (q:=fun x=>f x=true) (fun q hq=>hf _ (Vo (Wk hq))) q hq
 rcases hm with hm|hm
 ·exact .inl (part _ hm)
 ·exact .inr (part _ hm)
section
variable {X:Cx} {pins:bf} {φ:Fr} {g g0:G} {L L':aa} {s:Vc} {ys:List T} {us:List U8} {ps:List (T × T)} {a it l:VJ} {ol:Obj} {A:VZ} {R:Result->Vc->Prop}
theorem uD (hu:A.in1.units+8<cLine) (ch:List VJ) (W:Nat->Heap->Prop) (hm:gL (ps.map (·.1))=true) (hlen:ps.length<=100000) (oC:∀c∈ch,c≠a)
  (frame:∀i h h',W i h->(∀c,c≠a->h'.get? c=h.get? c)->W i h')
  (next:∀{E:U8->Vc->Prop} (i:Nat) (s':Vc) (g':G) (p:T × T) (Q:Option U8->Vc->Prop),ps[i]?=some p->Le g0 g'->a<s'.heap.objs.size->(∀h1,(∀b o,b∉ch->s'.heap.get? b=some o->h1.get? b=some o)->Inv X pins φ g' (.aU (rB (ps.take i))::L) { s' with heap:=h1 })->W i s'.heap ->
   (∀h1 t o uk uv n,W (i+1) h1->(∀b o,b∉ch->s'.heap.get? b=some o->h1.get? b=some o)->h1.get? t=some o->o.cls=.type "tuple"->o.data=.seq #[uk,uv] n->RT g' none p.1 uk->RT g' none p.2 uv->Q (some (.ref t)) { s' with heap:=h1 })->Vq (model X.prog X.w) A.in1 (pyNext (.ref it)) Q E s')
  (last:∀{E:U8->Vc->Prop} (s':Vc) (Q:Option U8->Vc->Prop),W ps.length s'.heap->(∀h2,(∀b o,b∉ch->s'.heap.get? b=some o->h2.get? b=some o)->Q none { s' with heap:=h2 })->Vq (model X.prog X.w) A.in1 (pyNext (.ref it)) Q E s')
  (fin:∀s' g',Le g0 g'->Inv X pins φ g' (.aU (rB ps)::L) s'->RT g' none (.ref L.length) (.ref a)->R (.ok (.ret .none)) s') :
  ∀(k i:Nat) (s':Vc) (g':G),ps.length - i=k->i<=ps.length->Le g0 g'->Inv X pins φ g' (.aU (rB (ps.take i))::L) s'->RT g' none (.ref L.length) (.ref a)->(∀c∈ch,gx X pins g'.H c)->W i s'.heap ->
   Vq (model X.prog X.w) A.in1 (Builtin.«dict.update.loop» ⟨[.ref a,.ref it,rawInt (i:Int),.none],[]⟩) (fun fin s'=>match fin with|.done f=>R (.ok f) s'|.again c'=>c'.quiet=true/\codeAny (model X.prog X.w) A c' R s') (fun e s'=>R (.error e) s') s':=by
 intro k;induction k with
 | zero =>
  intro i s' g' hk hi l0 J rd hf hW;obtain rfl:i=ps.length:=by omega
  unfold Builtin.«dict.update.loop»;dsimp only [rawInt];refine U0 (last s' _ hW fun h2 hx=>?_);dsimp only;show Vq _ _ (Builtin.Dict.addKeywords a [] >>= _) _ _ _
  refine U0 (U2 (U2 ?_));rw [V2 (Vm _)] at J;exact fin _ g' l0 (J.turned (t':=s'.toks) (ch:=ch) hx hf) rd
 | succ k ih =>
  intro i s' g' hk hi l0 J rd hf hW;have R7:i<ps.length:=by omega
  have ep:=Ge9 R7;have Nt:a<s'.heap.objs.size:=by
   obtain⟨p,o,es,ep,ea,hp,v7,CK,D2⟩:=J.wc rd (by unfold at_;rw [if_pos rfl]);cases ea;exact Vu D2.ho
  unfold Builtin.«dict.update.loop»;dsimp only [rawInt];refine U0 (next i s' g' _ _ ep l0 Nt (fun h1 k=>J.turned (t':=s'.toks) (ch:=ch) k hf) hW fun h1 t ot uk uv n R8 ug MF GG Nu rk rv=>?_);dsimp only;have J1:=J.turned (t':=s'.toks) (ch:=ch) ug hf
  have R9:Y9 { s' with heap:=h1 } (.ref t) "tuple":=⟨ot,MF,GG⟩;refine U0 (wpAny_holding (U0 ?_));have Nv:∀{E':U8->Vc->Prop} {Q':List U8->Vc->Prop},Q' [uk,uv] { s' with heap:=h1 }->Vq (model X.prog X.w) A.in1 (aam (.ref t)) Q' E' { s' with heap:=h1 }:=fun {E' Q'} hq'=>by
   unfold aam;refine U0 (wpAny_typeOf R9 ?_);rw [if_pos (by decide)];refine U0 (wpAny_seqItems MF Nu (U2 ?_));exact hq'
  refine wpAny_tryCatch (Nv ?_);dsimp only;have hz:(rB (ps.take i)).length<Vz:=by
   have z:=CJ (ps.take i);rw [VS] at z;rw [WB];omega
  refine wpAny_holding (wpAny_mono (we (n:=L.length) (E:=fun e s'=>R (.error e) s') J1 hu (by unfold at_;rw [if_pos rfl]) rd rk rv hz (zE hm ep)) (fun _ s2 h2=>?_) fun _ _ e=>e);obtain⟨⟨g2,l2,J2,hH⟩,Sa⟩:=h2;refine U2 ?_;refine⟨plainId_quiet plain_dul _,codeAny_builtin entry_dul ?_⟩;rw [Wl plain_dul _];have ei:((i:Int)+1)=((i+1:Nat):Int):=by push_cast;rfl
  rw [ei];have J3:Inv X pins φ g2 (.aU (rB (ps.take (i+1)))::L) s2:=by
   rw [zD ep];have z:put (.aU (rB (ps.take i))::L) L.length (.aU (dput (rB (ps.take i)) ps[i].1 ps[i].2))=.aU (dput (rB (ps.take i)) ps[i].1 ps[i].2)::L:=by unfold put;rw [if_pos rfl]
   rw [<- z];exact J2
  exact ih (i+1) s2 g2 (by omega) (by omega) (l0.trans l2) J3 (rd.le l2) (fun c hc=>⟨by rw [hH c (oC c hc)];exact(hf c hc).1,(hf c hc).2⟩) (frame _ _ _ R8 Sa)
theorem zF {u:U8} {x y:T} {g':G} {s':Vc} (J:Inv X pins φ g' L s') (ru:RT g' none (.tup [x,y]) u):∃t o uk uv n,u=.ref t/\s'.heap.get? t=some o/\o.cls=.type "tuple"/\o.data=.seq #[uk,uv] n/\RT g' none x uk/\RT g' none y uv:=by
 obtain⟨t,Sb,et,⟨ot,MF,GG,n,Nu⟩,rt,_⟩:=J.tup ru;obtain⟨uk,uv,e2,rk,rv⟩:=lr rt;have e3:Sb = #[uk,uv]:=by apply Array.ext';simpa using e2
 subst e3;exact⟨t,ot,uk,uv,n,et,MF,GG,Nu,rk,rv⟩
theorem zG {i:Nat} {p:T × T} (r0:cG g0 ys us) (hp:prsOf ys=some ps) (ep:ps[i]?=some p):∃u,us[i]?=some u/\RT g0 none (.tup [p.1,p.2]) u:=by
 have ey:=(prsOf_at hp).2 i p ep;have hl:=Vr r0
 have hi:=(Vl.mp ey).1;have eu:=Ge9 (l:=us) (i:=i) (by omega)
 exact⟨_,eu,xk r0 i _ _ ey eu⟩
theorem zH (r0:cG g0 ys us) (hp:prsOf ys=some ps):us.length<=ps.length:=by
 have h1:=Vr r0;have h2:=(prsOf_at hp).1
 omega
theorem wh {t:T} {u:U8} {w:T} (hu:X.A.units+20<cLine) (I:Inv X pins φ g L s) (ru:RT g none t u) (ht:vw L t=.lst ys\/vw L t=.tup ys) (h:yq ys L=.ok w L'):Vq (model X.prog X.w) X.A (call (.type "dict") [u]) (EP X pins φ g w L') F0 s:=by
 have iA:X.A.in1.in1.units+8<cLine:=by show X.A.units+1+1+8<cLine;omega
 unfold yq at h;split at h
 ·rename_i ps CL
  obtain⟨⟨hm,hlen⟩,h⟩:=aC h;cases h;have yH:g.H s.heap.objs.size=none:=I.fresh
  have big:(s.heap.objs.size == sysModules)=false:=by
   have h1:sysModules<s.heap.objs.size:=Xa (by decide) (I.mod.glob.keeps I.bk).lt;simpa using We h1
  have J0:=I.new (c:=.aU []) (o:={ cls:=.type "dict",data:=.dict #[] }) (h':=s.heap.push { cls:=.type "dict",data:=.dict #[] }) (t':=s.toks) (fun b u e=>U1 _ e) (Vm _) (U9 _ rfl)
   (.aU (.inr rfl) (.inl ar) ⟨rfl,rfl,rfl⟩ rfl (VK _) rfl ⟨Xt,rfl⟩ big (fun i x e e1 _=>by simp at e1) (fun i x e e1 _=>by simp at e1) fun i x e e1 _=>by simp at e1)
  have l0:=Le.new (o:={ cls:=.type "dict",data:=.dict #[] }) yH;have rd:RT (g.new s.heap.objs.size { cls:=.type "dict",data:=.dict #[] }) none (.ref L.length) (.ref s.heap.objs.size):=by
   have:=I.rel.len;exact .ref (p:=(s.heap.objs.size,s.heap.objs.size)) (by show at_ ((_,_)::g.α) _=_;rw [<- this];exact fk)
  refine callType_codes (Q₁:=fun obj s₁=>obj=.ref s.heap.objs.size/\s₁={ s with heap:=s.heap.push { cls:=.type "dict",data:=.dict #[] } }) aan (Zi _) Z3 (kt_code_dict_new _ ⟨rfl,rfl⟩) ?_;rintro obj s₁ ⟨rfl,rfl⟩;have uE:Y9 { s with heap:=s.heap.push { cls:=.type "dict",data:=.dict #[] } } (.ref s.heap.objs.size) "dict":=⟨_,U9 _ rfl,rfl⟩
  refine⟨uE,ZQ _ _,?_⟩;unfold Builtin.«dict.__init__»;refine U0 ?_;unfold ZR;refine U0 (wpAny_notOrdered_dict uE ?_);show Vq _ _ (pure (s.heap.objs.size,[u])) _ _ _
  refine U2 ?_;show Vq _ _ (XE "dict.__init__" s.heap.objs.size u [] .none) _ _ _
  unfold XE;obtain⟨q,v⟩:=I.view ru;rcases ht with ht|ht
  ·rw [ht] at v
   obtain⟨l,its,n,rfl,hg,rr,hz⟩:=I.lst v;have zI:(s.heap.push { cls:=.type "dict",data:=.dict #[] }).get? l=some { cls:=.type "list",data:=.seq its n }:=U1 _ hg
   refine U0 (wpAny_typeOf (T:="list") ⟨_,zI,rfl⟩ ?_);rw [if_pos (by decide)];refine U0 (GF zI rfl rfl rfl I.ok.hd fun h1 CM e hx=>?_);rw [if_pos (show(none:Option U8).isNone=true from rfl)];refine U0 (wpAny_rule ?_);have CN:=hx.keeps _ _ zI
   have J1:=J0.kept (t':=CM) (h':=h1) fun b o e=>hx.keeps b o e
   refine U0 (wpAny_pyIter_list (s:={ s with heap:=h1,toks:=CM }) (ah CN) ?_);refine U2 ⟨plainId_quiet plain_dul _,codeAny_builtin entry_dul ?_⟩;rw [Wl plain_dul _];have J2:=J1.kept (t':=CM) (h':=h1.push { cls:=.type "list_iterator",data:=.fields #[.ref l,.int 0 0] }) fun b o e=>U1 _ e
   have hsz:s.heap.objs.size<h1.objs.size:=Vu (hx.keeps _ _ (U9 s.heap (o:={ cls:=.type "dict",data:=.dict #[] }) rfl));refine uD (A:=X.A.in1) (a:=s.heap.objs.size) (it:=h1.objs.size) (L:=L) iA [h1.objs.size] (fun i h=>h.get? l=some { cls:=.type "list",data:=.seq its n }/\h.IsListIter h1.objs.size l i) hm hlen (fun c hc=>by rw [Vx.mp hc];exact We hsz)
    (fun i h h' ⟨q0,o,q1,q2⟩ e=>⟨(e l (VB (Vu hg))).trans q0,o,(e _ (We hsz)).trans q1,q2⟩) (fun i s' g' p Q ep lg _ J ⟨qo,ht⟩ hQ=>?_) (fun s' Q ⟨qo,ht⟩ hQ=>?_) (fun s' g' lg J JR=>?_)
    ps.length 0 _ _ rfl (VK _) (Le.refl _) J2 rd (fun c hc=>by rw [Vx.mp hc];exact J1.uc (Vm _) (J1.hok.fresh (Vm _))) ⟨U1 _ CN,_,U9 _ rfl,rfl,rfl⟩
   ·obtain⟨u,eu,ru⟩:=zG (rr.le l0) CL ep
    refine wpAny_pyNext_list_item (x:=u) ht (ah qo) (by simpa using eu) fun h2 a b=>?_
    have kp:∀c o,c∉[h1.objs.size]->s'.heap.get? c=some o->h2.get? c=some o:=fun c o hc e=>(b.2 c fun z=>hc (by simp [z])).trans e
    obtain⟨t,o,uk,uv,n,rfl,e1,e2,e3,rk,rv⟩:=zF (J h2 kp) (ru.le lg);exact hQ h2 t o uk uv n ⟨kp l _ (by simpa using VB (Xa (Vu hg) hsz)) qo,a⟩ kp e1 e2 e3 rk rv
   ·exact wpAny_pyNext_list_end I.ok.hd ht (ah qo) (by simpa using zH (rr.le l0) CL) fun h2 hx=>hQ h2 fun c o hc e=>hx c o (fun z=>hc (by simp [z])) e
   ·exact⟨rfl,g',l0.trans lg,J,JR⟩
  ·rw [ht] at v
   obtain⟨l,its,n,sl,rfl,hg,rr,hz⟩:∃l its n sl,u=.ref l/\s.heap.get? l=some ⟨.type "tuple",none,.seq its n,sl⟩/\cG g ys its.toList/\ys.length<=Vz:=by
    have v':=v;cases v with
    | tup hk hc hd hz hl hi =>
     rename_i a o its n;obtain⟨oc,od,dt,sl⟩:=o;obtain⟨h1,h2⟩:=hc;simp only at h1 h2 hd;subst h1 h2 hd;exact⟨_,_,_,_,rfl,I.kn hk,dH (by simpa using hl) fun i x v e1 e2=>hi i x v e1 (by simpa using e2),hz⟩
   have uF:∀{h:Heap},h.get? l=some ⟨.type "tuple",none,.seq its n,sl⟩->h.IsTuple l its:=fun e=>⟨_,e,rfl,n,rfl⟩
   have zI:(s.heap.push { cls:=.type "dict",data:=.dict #[] }).get? l=some ⟨.type "tuple",none,.seq its n,sl⟩:=U1 _ hg;refine U0 (wpAny_typeOf (T:="tuple") ⟨_,zI,rfl⟩ ?_);rw [if_pos (by decide)];refine U0 (noKeysT zI I.ok.hd fun h1 CM e hx=>?_);rw [if_pos (show(none:Option U8).isNone=true from rfl)];refine U0 (wpAny_rule ?_);have CN:=hx.keeps _ _ zI
   have J1:=J0.kept (t':=CM) (h':=h1) fun b o e=>hx.keeps b o e
   refine U0 (wpAny_pyIter_tuple (s:={ s with heap:=h1,toks:=CM }) (uF CN) ?_);refine U2 ⟨plainId_quiet plain_dul _,codeAny_builtin entry_dul ?_⟩;rw [Wl plain_dul _];have J2:=J1.kept (t':=CM) (h':=h1.push { cls:=.type "tuple_iterator",data:=.fields #[.ref l,.int 0 0] }) fun b o e=>U1 _ e
   have hsz:s.heap.objs.size<h1.objs.size:=Vu (hx.keeps _ _ (U9 s.heap (o:={ cls:=.type "dict",data:=.dict #[] }) rfl));refine uD (A:=X.A.in1) (a:=s.heap.objs.size) (it:=h1.objs.size) (L:=L) iA [h1.objs.size] (fun i h=>h.get? l=some ⟨.type "tuple",none,.seq its n,sl⟩/\h.IsTupleIter h1.objs.size l i) hm hlen (fun c hc=>by rw [Vx.mp hc];exact We hsz)
    (fun i h h' ⟨q0,o,q1,q2⟩ e=>⟨(e l (VB (Vu hg))).trans q0,o,(e _ (We hsz)).trans q1,q2⟩) (fun i s' g' p Q ep lg _ J ⟨qo,ht⟩ hQ=>?_) (fun s' Q ⟨qo,ht⟩ hQ=>?_) (fun s' g' lg J JR=>?_)
    ps.length 0 _ _ rfl (VK _) (Le.refl _) J2 rd (fun c hc=>by rw [Vx.mp hc];exact J1.uc (Vm _) (J1.hok.fresh (Vm _))) ⟨U1 _ CN,_,U9 _ rfl,rfl,rfl⟩
   ·obtain⟨u,eu,ru⟩:=zG (rr.le l0) CL ep
    refine wpAny_pyNext_tuple_item (x:=u) ht (uF qo) (by simpa using eu) fun h2 a b=>?_
    have kp:∀c o,c∉[h1.objs.size]->s'.heap.get? c=some o->h2.get? c=some o:=fun c o hc e=>(b.2 c fun z=>hc (by simp [z])).trans e
    obtain⟨t,o,uk,uv,n,rfl,e1,e2,e3,rk,rv⟩:=zF (J h2 kp) (ru.le lg);exact hQ h2 t o uk uv n ⟨kp l _ (by simpa using VB (Xa (Vu hg) hsz)) qo,a⟩ kp e1 e2 e3 rk rv
   ·exact wpAny_pyNext_tuple_end I.ok.hd ht (uF qo) (by simpa using zH (rr.le l0) CL) fun h2 hx=>hQ h2 fun c o hc e=>hx c o (fun z=>hc (by simp [z])) e
   ·exact⟨rfl,g',l0.trans lg,J,JR⟩
 ·cases h
theorem xw (hu:X.A.units+20<cLine):dS X (.type "dict") ic:=fun I r h=>by
 unfold ic at h;split at h
 ·obtain⟨u,rfl,ru⟩:=bM r
  split at h
  ·exact wh hu I ru (.inl (by assumption)) h
  ·exact wh hu I ru (.inr (by assumption)) h
  ·cases h
 ·cases h
end
end M
namespace L2
open PySem PySem.W PyProof.Rows
noncomputable def cM {α:Type} (lt:Nat->Nat->Bool) (n:Nat):KasT α->(α->Prop)->Prop
 | .ret a,Q=>Q a
 | .ask i j k,Q=>i<n/\j<n/\cM lt n (k (lt i j)) Q
theorem cM.mono {α:Type} {lt:Nat->Nat->Bool} {n:Nat} {Q Q':α->Prop} (hq:∀a,Q a->Q' a):∀{t:KasT α},cM lt n t Q->cM lt n t Q'
 | .ret _,h=>hq _ h
 | .ask _ _ _,⟨h1,h2,h3⟩=>⟨h1,h2,cM.mono hq h3⟩
theorem cM.bind {α β:Type} {lt:Nat->Nat->Bool} {n:Nat} {f:α->KasT β} {Q:β->Prop}:∀{t:KasT α},cM lt n t (fun a=>cM lt n (f a) Q)->cM lt n (t.bind f) Q
 | .ret _,h=>h
 | .ask _ _ _,⟨h1,h2,h3⟩=>⟨h1,h2,cM.bind h3⟩
theorem cM.wp {α:Type} {lt:Nat->Nat->Bool} {n:Nat} {Q:α->Prop} {cmp:Nat->Nat->(Bool->Vc->Prop)->Vc->Prop} {R:α->Vc->Prop} {s:Vc} (hc:∀i j C,i<n->j<n->C (lt i j) s->cmp i j C s) (hq:∀a,Q a->R a s) :
  ∀{t:KasT α},cM lt n t Q->t.kasWp cmp R s
 | .ret _,h=>hq _ h
 | .ask _ _ _,⟨h1,h2,h3⟩=>hc _ _ _ h1 h2 (cM.wp hc hq h3)
structure WO (lt:Nat->Nat->Bool):Prop where
 xx:∀a b,lt a b=true->lt b a=false
 tr:∀a b c,lt b a=false->lt c b=false->lt c a=false
theorem WO.El {lt:Nat->Nat->Bool} (W:WO lt) (a:Nat):lt a a=false:=by
 cases h:lt a a with
 | false=>rfl
 | true=>have:=W.xx a a h;rw [h] at this;exact this
theorem WO.up {lt:Nat->Nat->Bool} (W:WO lt) {a b c:Nat} (h1:lt a b=true) (h2:lt c b=false):lt a c=true:=by
 cases h:lt a c with
 | true=>rfl
 | false=>have:=W.tr b c a h2 h;rw [h1] at this;exact this.symm
noncomputable def rU (lt:Nat->Nat->Bool) (p:Array Nat) (m:Nat):Prop:=∀i j,i<j->j<m->lt (p.getD j 0) (p.getD i 0)=false
noncomputable def yc (lt:Nat->Nat->Bool) (p:Array Nat) (m:Nat):Prop:=∀i j,i<j->j<m->lt (p.getD i 0) (p.getD j 0)=false
noncomputable def Arr (n:Nat) (p:Array Nat):Prop:=p.size=n/\p.toList.Perm (V5 n)
theorem Arr.lt {n:Nat} {p:Array Nat} (h:Arr n p) {k:Nat} (hk:k<n):p.getD k 0<n:=by
 have hs:k<p.size:=by rw [h.1];exact hk
 have e:p.getD k 0=p[k]:=by simp [WU,hs]
 rw [e];have m:p[k]∈p.toList:=by simp
 exact V3.mp (h.2.mem_iff.mp m)
theorem Arr.of {n:Nat} {p q:Array Nat} (h:Arr n p) (hp:q.Perm p):Arr n q:=⟨hp.size_eq.trans h.1,(Array.perm_iff_toList_perm.mp hp).trans h.2⟩
theorem dT {p:Array Nat} {i j:Nat} (hj:j<=p.size) (k:Nat):(kas_rev p i j).getD k 0=if i<=k/\k<j then p.getD (i+j - 1 - k) 0 else p.getD k 0:=by
 rw [VG,VG,VG];unfold kas_rev;rw [getElem?_mirror_all hj k];split <;> rfl
theorem rV {p:Array Nat} {src d:Nat} (hs:src<p.size) (hd:d<=src) (k:Nat):(bubble p src d).getD k 0=if k=src - d then p.getD src 0 else if src - d<k/\k<=src then p.getD (k - 1) 0 else p.getD k 0:=by
 rw [VG,VG,VG,VG];rw [getElem?_bubble hs d hd k];split
 ·rfl
 ·split <;> rfl
theorem Arr.rev {n:Nat} {p:Array Nat} (h:Arr n p) (i j:Nat):Arr n (kas_rev p i j):=h.of (mirror_perm _ _ _ _)
theorem Arr.Sd {n:Nat} {p:Array Nat} (h:Arr n p) (i j:Nat):Arr n (bubble p i j):=h.of (bubble_perm _ _ _)
section
variable {lt:Nat->Nat->Bool} {n:Nat} (W:WO lt)
include W
theorem rU.more {p:Array Nat} {m:Nat} (h:rU lt p m) (h1:1<=m) (hl:lt (p.getD m 0) (p.getD (m - 1) 0)=false):rU lt p (m+1):=fun i j uB hj=>by
 by_cases e:j=m
 ·subst e
  by_cases e2:i=j - 1
  ·subst e2;exact hl
  ·exact W.tr _ _ _ (h i (j - 1) (by omega) (by omega)) hl
 ·exact h i j uB (by omega)
theorem yc.more {p:Array Nat} {m:Nat} (h:yc lt p m) (h1:1<=m) (hl:lt (p.getD (m - 1) 0) (p.getD m 0)=false):yc lt p (m+1):=fun i j uB hj=>by
 by_cases e:j=m
 ·subst e
  by_cases e2:i=j - 1
  ·subst e2;exact hl
  ·exact W.tr _ _ _ hl (h i (j - 1) (by omega) (by omega))
 ·exact h i j uB (by omega)
theorem uG {p:Array Nat} (hp:Arr n p):∀(f m:Nat),1<=m->m+f<=n->rU lt p m ->
  cM lt n (kas_asc p f m) (fun r=>m<=r/\r<=m+f/\rU lt p r/\(r<m+f->lt (p.getD r 0) (p.getD (r - 1) 0)=true))
 | 0,m,_,_,h=>⟨Vm _,Vm _,h,fun z=>absurd z (by omega)⟩
 | f+1,m,h1,h2,h=>by
  refine⟨hp.lt (by omega),hp.lt (by omega),?_⟩;cases e:lt (p.getD m 0) (p.getD (m - 1) 0) with
  | true=>exact⟨Vm _,by omega,h,fun _=>e⟩
  | false =>
   show cM lt n (kas_asc p f (m+1)) _;exact(uG hp f (m+1) (by omega) (by omega) (h.more W h1 e)).mono fun r ⟨a,b,c,d⟩=>⟨by omega,by omega,c,fun z=>d (by omega)⟩
noncomputable def JS (lt:Nat->Nat->Bool) (p:Array Nat) (a b:Nat):Prop:=∀i j,a<=i->i<b->a<=j->j<b->lt (p.getD i 0) (p.getD j 0)=false
omit W in
theorem yc.rev {p:Array Nat} {a m:Nat} (hm:m<=p.size) (h:yc lt p m) (he:JS lt p a m):yc lt (kas_rev p a m) m:=fun i j uB hj=>by
 rw [dT hm,dT hm];by_cases h1:a<=i
 ·rw [if_pos ⟨h1,by omega⟩,if_pos ⟨by omega,hj⟩]
  exact he _ _ (by omega) (by omega) (by omega) (by omega)
 ·rw [if_neg (by omega)]
  by_cases h2:a<=j
  ·rw [if_pos ⟨h2,hj⟩]
   exact h _ _ (by omega) (by omega)
  ·rw [if_neg (by omega)]
   exact h i j uB hj
theorem mI:∀(f:Nat) (p:Array Nat) (m q:Nat),Arr n p->q+1<=m->m+f=n->yc lt p m->JS lt p (m - (q+1)) m ->
  cM lt n (kas_desc f p m q) (fun r=>Arr n r.1/\r.2.1<=n/\r.2.2+1<=r.2.1/\yc lt r.1 r.2.1/\JS lt r.1 (r.2.1 - (r.2.2+1)) r.2.1)
 | 0,p,m,q,hp,hq,hm,h,he=>⟨hp,by show m<=n;omega,hq,h,he⟩
 | f+1,p,m,q,hp,hq,hm,h,he=>by
  have hB:m - 1<m:=by omega
  have hA:m - (q+1)<=m - 1:=by omega
  have CO:m<n:=by omega
  have GH:m+1+f=n:=by omega
  have l0:=hp.lt CO;have l1:=hp.lt (Xa hB CO)
  refine⟨l0,l1,?_⟩;have hsz:m<=p.size:=by rw [hp.1];exact Ys CO
  have one:∀{p:Array Nat},JS lt p (m+1 - (0+1)) (m+1):=fun i j a1 a2 a3 a4=>by
   obtain rfl:i=j:=by omega
   exact W.El _
  cases e:lt (p.getD m 0) (p.getD (m - 1) 0) with
  | true =>
   show cM lt n (if q > 0 then _ else _) _;split
   ·have hr:=h.rev hsz he
    have e1:(kas_rev p (m - (q+1)) m).getD m 0=p.getD m 0:=by rw [dT hsz,if_neg (fun z=>WG _ z.2)]
    have hl:lt ((kas_rev p (m - (q+1)) m).getD (m - 1) 0) ((kas_rev p (m - (q+1)) m).getD m 0)=false:=by
     rw [e1,dT hsz,if_pos ⟨hA,hB⟩];have e2:m - (q+1)+m - 1 - (m - 1)=m - (q+1):=by omega
     rw [e2];exact W.tr _ _ _ (W.xx _ _ e) (he (m - (q+1)) (m - 1) (Vm _) (Zm hA hB) hA hB)
    exact mI f _ (m+1) 0 (hp.rev _ _) (YB _ _) GH (hr.more W (Vt (YB 1 q) hq) hl) one
   ·exact mI f p (m+1) 0 hp (YB _ _) GH (h.more W (Vt (YB 1 q) hq) (W.xx _ _ e)) one
  | false =>
   show cM lt n (.ask (p.getD (m - 1) 0) (p.getD m 0) _) _;refine⟨l1,l0,?_⟩;cases e2:lt (p.getD (m - 1) 0) (p.getD m 0) with
   | true=>exact⟨hp,Ys CO,hq,h,he⟩
   | false =>
    show cM lt n (kas_desc f p (m+1) (q+1)) _;have lo:∀i,m+1 - (q+1+1)<=i->m - (q+1)<=i:=fun i a=>by omega
    have hi:∀i,i<m+1->i≠m->i<m:=fun i a b=>by omega
    refine mI f p (m+1) (q+1) hp (aae hq) GH (h.more W (Vt (YB 1 q) hq) e2) fun i j a1 a2 a3 a4=>?_
    by_cases c1:i=m
    ·by_cases c2:j=m
     ·rw [c1,c2];exact W.El _
     ·rw [c1];exact W.tr _ _ _ (he (m - 1) j hA hB (lo j a3) (hi j a4 c2)) e
    ·by_cases c2:j=m
     ·rw [c2];exact W.tr _ _ _ e2 (he i (m - 1) (lo i a1) (hi i a2 c1) hA hB)
     ·exact he i j (lo i a1) (hi i a2 c1) (lo j a3) (hi j a4 c2)
theorem rW {p:Array Nat} {m:Nat} (hp:Arr n p) (h1:1<=m) (hm:m<=n) (h:yc lt p m):cM lt n (kas_tail3 m n p) (fun r=>Arr n r.2/\1<=r.1/\r.1<=n/\rU lt r.2 r.1):=by
 have hsz:m<=p.size:=by rw [hp.1];exact hm
 have hr:rU lt (kas_rev p 0 m) m:=fun i j uB hj=>by
  rw [dT hsz,dT hsz,if_pos ⟨by omega,hj⟩,if_pos ⟨by omega,by omega⟩];exact h _ _ (by omega) (by omega)
 refine cM.bind ((uG W (hp.rev 0 m) (n - m) m h1 (by omega) hr).mono fun r ⟨a,b,c,_⟩=>?_);exact⟨hp.rev 0 m,by show 1<=r;omega,by show r<=n;omega,c⟩
theorem lV {p:Array Nat} {m:Nat} (hp:Arr n p) (hm:m+1<=n) (h:yc lt p (m+1)):cM lt n (kas_descPart m n p) (fun r=>Arr n r.2/\1<=r.1/\r.1<=n/\rU lt r.2 r.1):=by
 refine cM.bind ((mI W (n - (m+1)) p (m+1) 0 hp (by omega) (by omega) h fun i j a1 a2 a3 a4=>?_).mono fun r ⟨a,b,c,d,e⟩=>?_)
 ·obtain rfl:i=j:=by omega
  exact W.El _
 ·split
  ·exact rW W (a.rev _ _) (by omega) b (d.rev (by rw [a.1];exact b) e)
  ·exact rW W a (by omega) b d
theorem zJ {p:Array Nat} (hp:Arr n p) (h1:1<=n):cM lt n (kas_count n p) (fun r=>Arr n r.2/\1<=r.1/\r.1<=n/\rU lt r.2 r.1):=by
 refine cM.bind ((uG W hp (n - 1) 1 (Vm _) (by omega) fun i j a b=>absurd a (by omega)).mono fun m ⟨a,b,c,d⟩=>?_);have CO:m<=n:=by omega
 split
 ·exact⟨hp,a,CO,c⟩
 ·rename_i hne
  have hne':m≠n:=fun z=>hne (beq_iff_eq.mpr z)
  have bQ:m<n:=Nat.lt_of_le_of_ne CO hne';have GH:m - 1<m:=Nat.sub_lt a Nat.one_pos
  have hd:=d (by omega);split
  ·refine⟨hp.lt h1,hp.lt (Xa GH bQ),?_⟩
   cases e:lt (p.getD 0 0) (p.getD (m - 1) 0) with
   | true=>exact⟨hp,a,CO,c⟩
   | false =>
    show cM lt n (kas_descPart m n (kas_rev p 0 m)) _;have hsz:m<=p.size:=by rw [hp.1];exact CO
    have all:JS lt p 0 m:=fun i j _ hi _ hj=>by
     have z1:lt (p.getD (m - 1) 0) (p.getD j 0)=false:=by
      by_cases cj:j=m - 1
      ·subst cj;exact W.El _
      ·exact c j (m - 1) (by omega) GH
     have z2:lt (p.getD i 0) (p.getD 0 0)=false:=by
      by_cases ci:i=0
      ·subst ci;exact W.El _
      ·exact c 0 i (Nat.pos_of_ne_zero ci) hi
     exact W.tr _ _ _ (W.tr _ _ _ z1 e) z2
    have hf:yc lt (kas_rev p 0 m) m:=yc.rev hsz (fun i j uB hj=>all i j (VK _) (Xa uB hj) (VK _) hj) all;refine lV W (hp.rev 0 m) bQ (hf.more W a ?_);rw [dT hsz,dT hsz,if_pos ⟨VK _,GH⟩,if_neg (fun z=>WG _ z.2)];have e2:0+m - 1 - (m - 1)=0:=by omega
    rw [e2];exact W.tr _ _ _ (W.xx _ _ hd) e
  ·obtain rfl:m=1:=by omega
   refine lV W hp bQ fun i j uB hj=>?_
   obtain rfl:i=0:=by omega
   obtain rfl:j=1:=by omega
   exact W.xx _ _ hd
theorem ny {p:Array Nat} {k:Nat} (hp:Arr n p) (hk:k<n) (h:rU lt p k):∀(f l r:Nat),l<=r->r<=k->r - l<=f->(∀i,i<l->lt (p.getD k 0) (p.getD i 0)=false)->(∀i,r<=i->i<k->lt (p.getD k 0) (p.getD i 0)=true) ->
  cM lt n (kas_place p k f l r) (fun x=>x<=k/\(∀i,i<x->lt (p.getD k 0) (p.getD i 0)=false)/\∀i,x<=i->i<k->lt (p.getD k 0) (p.getD i 0)=true)
 | 0,l,r,a,b,c,d,e=>by
  obtain rfl:l=r:=by omega
  exact⟨b,d,e⟩
 | f+1,l,r,a,b,c,d,e=>by
  show cM lt n (if l≥r then _ else _) _;split
  ·obtain rfl:l=r:=by omega
   exact⟨b,d,e⟩
  ·have m1:l<=(l+r) / 2:=by omega
   have m2:(l+r) / 2<r:=by omega
   have m3:(l+r) / 2<k:=VF m2 b;refine⟨hp.lt hk,hp.lt (Xa m3 hk),?_⟩;cases q:lt (p.getD k 0) (p.getD ((l+r) / 2) 0) with
   | true =>
    refine ny hp hk h f l ((l+r) / 2) m1 (Ys m3) (by omega) d fun i h1 h2=>?_
    by_cases c1:i=(l+r) / 2
    ·subst c1;exact q
    ·exact W.up q (h _ i (by omega) h2)
   | false =>
    refine ny hp hk h f ((l+r) / 2+1) r m2 b (by omega) (fun i h1=>?_) e;by_cases c1:i=(l+r) / 2
    ·subst c1;exact q
    ·exact W.tr _ _ _ (h i ((l+r) / 2) (by omega) m3) q
theorem zK:∀(f:Nat) (p:Array Nat) (k:Nat),Arr n p->k+f=n->rU lt p k->cM lt n (kas_bin f p k) (fun q=>Arr n q/\rU lt q n)
 | 0,p,k,hp,hk,h=>by
  obtain rfl:k=n:=by omega
  exact⟨hp,h⟩
 | f+1,p,k,hp,hk,h=>by
  have hkn:k<n:=by omega
  refine cM.bind ((ny W hp hkn h k 0 k (VK _) (Vm _) (Nat.sub_le _ _) (fun i z=>absurd z (Nat.not_lt_zero _)) fun i z1 z2=>absurd z1 (Nat.not_le_of_lt z2)).mono fun l ⟨a,b,c⟩=>?_);have hs:k<p.size:=by rw [hp.1];exact hkn
  refine zK f _ (k+1) (hp.Sd _ _) (by omega) fun i j uB hj=>?_
  have e:k - (k - l)=l:=Nat.sub_sub_self a;have kl:k - l<=k:=Nat.sub_le _ _
  rw [rV hs kl,rV hs kl,e];by_cases j1:j=l
  ·rw [if_pos j1,if_neg (by omega),if_neg (by omega)]
   exact b i (by omega)
  ·rw [if_neg j1]
   by_cases j2:l<j/\j<=k
   ·rw [if_pos j2]
    by_cases i1:i=l
    ·rw [if_pos i1]
     exact W.xx _ _ (c (j - 1) (by omega) (by omega))
    ·rw [if_neg i1]
     by_cases i2:l<i/\i<=k
     ·rw [if_pos i2];exact h _ _ (by omega) (by omega)
     ·rw [if_neg i2];exact h _ _ (by omega) (by omega)
   ·rw [if_neg j2,if_neg (by omega),if_neg (by omega)]
    exact h i j uB (by omega)
theorem CP (h1:1<=n):cM lt n (kas_sort n) (fun p=>Arr n p/\rU lt p n):=by
 have h0:Arr n (YW (V5 n)):=⟨by simp,by simp⟩;refine cM.bind ((zJ W h0 h1).mono fun r ⟨a,b,c,d⟩=>?_);have hm:max r.1 1=r.1:=by omega
 split
 ·rw [hm]
  exact zK W _ _ _ a (by omega) d
 ·have e:r.1=n:=by omega
  rw [e] at d;exact⟨a,d⟩
end
end L2
namespace L2
open PySem PySem.W PySem.Calls PyProof.Rows
section
variable {prog:Wh} {w:Xg} {A:VZ} {E:U8->Vc->Prop} {s:Vc}
theorem oJ {a:VJ} {vs:List U8} {n:Nat} {κ:SortKind} {lt:Nat->Nat->Bool} {P:PySem.Fin->Vc->Prop} (W:WO lt) (ho:s.heap.get? a=some (seqObj "list" vs.toArray n)) (MG:vs.length<64)
  (hk:2<=vs.length->∀h',(∀b o,b≠a->s.heap.get? b=some o->h'.get? b=some o)->∀Q:SortKind->Vc->Prop,Q κ { s with heap:=h' }->Vq (model prog w) A (keyKind' vs.toArray) Q (fun _ _=>False) { s with heap:=h' })
  (hc:∀h',(∀b o,b≠a->s.heap.get? b=some o->h'.get? b=some o)->∀i j (C:Bool->Vc->Prop),i<vs.length->j<vs.length->C (lt i j) { s with heap:=h' } ->
   Vq (model prog w) A (keyLt' κ (vs.getD i Wr) (vs.getD j Wr)) C (fun _ _=>False) { s with heap:=h' })
  (fin:∀p h' c,Arr vs.length p->rU lt p vs.length->(∀b o,b≠a->s.heap.get? b=some o->h'.get? b=some o)->h'.get? a=some (seqObj "list" (YW (p.toList.map fun i=>vs.getD i Wr)) c)->P (.done (.ret .none)) { s with heap:=h' }) :
  Vq (model prog w) A (Builtin.«list.sort» ⟨[.ref a],[]⟩) P E s:=by
 have ha:a<s.heap.objs.size:=Vu ho;obtain⟨e1,MH⟩:∃e1,(s.heap.update a (Wx fun _=>(#[]:Array U8))).get? a=some (seqObj "list" #[] e1):=⟨_,get?_update_seq ho fun _=>#[]⟩;have JT:(((s.heap.update a (Wx fun _=>(#[]:Array U8))).push (seqObj "tuple" vs.toArray 0)).push (seqObj "list" #[] 0)).get? a=some (seqObj "list" #[] e1):=by
  rw [X7 _ _ _ (by rw [size_push',YZ];exact VB (Wa ha)),X7 _ _ _ (by rw [YZ];exact VB ha)];exact MH
 have keep:∀b o,b≠a->s.heap.get? b=some o->(((s.heap.update a (Wx fun _=>(#[]:Array U8))).push (seqObj "tuple" vs.toArray 0)).push (seqObj "list" #[] 0)).get? b=some o:=fun b o hb q=>by
  have bQ:b<s.heap.objs.size:=Vu q;rw [X7 _ _ _ (by rw [size_push',YZ];exact VB (Wa bQ)),X7 _ _ _ (by rw [YZ];exact VB bQ),Zd _ _ _ _ hb];exact q
 have JU:∀p (arr:Array U8),Arr vs.length p->rU lt p vs.length->arr=YW (p.toList.map fun i=>vs.getD i Wr)->P (.done (.ret .none)) { s with heap:=((((s.heap.update a (Wx fun _=>(#[]:Array U8))).push (seqObj "tuple" vs.toArray 0)).push (seqObj "list" #[] 0))).update a (Wx fun _=>arr) }:=fun p arr h1 h2 h3=>by
  subst h3;refine fin p _ _ h1 h2 (fun b o hb q=>?_) (get?_update_seq JT fun _=>_);rw [Zd _ _ _ _ hb];exact keep b o hb q
 rw [list_sort_plain];refine U0 (listItems_at ho rfl ?_);refine U0 (listUpdate_at ho rfl ?_ (by rw [Ww,WB];omega) (VK _));refine U0 (seqEpoch_at MH rfl ?_);refine U0 (wpAny_newTuple ?_ (by show vs.length<=_;rw [WB];omega));refine U0 (wpAny_newList ?_ (VK _));refine wpAny_holding ?_;show Vq (model prog w) A _ P E { s with heap:=((s.heap.update a (Wx fun _=>(#[]:Array U8))).push (seqObj "tuple" vs.toArray 0)).push (seqObj "list" #[] 0) }
 dsimp only;by_cases h2:vs.toArray.size<2
 ·rw [if_pos h2,if_pos h2]
  refine U0 (U2 ?_);rw [StateT.run_pure];refine U0 (U2 ?_);dsimp only;have hr:(V5 vs.length).map (fun i=>vs.getD i Wr)=vs:=by
   apply WJ (by simp);intro i a1 a2;simp [a2]
  refine U0 (seqEpoch_at JT rfl ?_);refine U0 (listUpdate_at JT rfl ?_ (hsz2:=by rw [Wd];show(pairsOf vs).size<=_;rw [pairsOf_size,WB];omega));simp only [bne_self_eq_false,Vi,if_false];refine U2 (JU (YW (V5 vs.length)) _ ⟨by simp,by simp⟩ (fun i j h1 h3=>?_) ?_)
  ·rw [Ww] at h2;omega
  ·show Array.map (·.2) (pairsOf vs)=_
   apply Array.toList_inj.mp;rw [aaf,pairsOf_toList];show _=(V5 vs.length).map (fun i=>vs.getD i Wr)
   rw [hr];exact List.map_snd_zip (by simp)
 ·rw [if_neg h2,if_neg h2]
  rw [Ww] at h2;refine U0 (wpAny_mono (hk (by omega) _ keep _ ?_) (fun κ' s' hq=>hq) fun _ _ x=>x.elim);refine U0 (wpAny_mono (kat_run (κ:=κ) (Q:=fun eD s'=>∃p:Array Nat,arrOf eD=p.map (kas_item (vs.toArray.zip vs.toArray))/\failedOf eD=none/\Arr vs.length p/\rU lt p vs.length/\s'={ s with heap:=((s.heap.update a (Wx fun _=>(#[]:Array U8))).push (seqObj "tuple" vs.toArray 0)).push (seqObj "list" #[] 0) })
   (G:=fun p s'=>Arr vs.length p/\rU lt p vs.length/\s'={ s with heap:=((s.heap.update a (Wx fun _=>(#[]:Array U8))).push (seqObj "tuple" vs.toArray 0)).push (seqObj "list" #[] 0) })
   rfl (by omega) MG (fun p' eD s' a1 a2 a3 a4=>⟨p',a2,a3,a4.1,a4.2.1,a4.2.2⟩) ((CP W (n:=vs.length) (by omega)).wp (fun i j C h3 h4 h5=>hc _ keep i j C h3 h4 h5) fun p hp=>⟨hp.1,hp.2,rfl⟩)) ?_ fun _ _ e=>e)
  rintro⟨⟨⟩,eD⟩ s' ⟨p,Se,hf,hp,Nx,rfl⟩;dsimp only;have Ny:=kat_snds (ks:=vs) rfl Se
  have hsz:(YW (p.toList.map fun i=>vs.getD i Wr)).size=vs.length:=by rw [Ww,Lm9,Ws,hp.1]
  rw [Ny];refine U0 (seqEpoch_at JT rfl ?_);refine U0 (listUpdate_at JT rfl ?_ (VK _) (Vt (Yt hsz) (by rw [WB];omega)));rw [hf];simp only [bne_self_eq_false,Vi,if_false];exact U2 (JU p _ hp Nx rfl)
end
noncomputable def uH (A:VZ) (s:Vc) (u v:U8) (b:Bool):Prop :=
 ∀(prog:Wh) (w:Xg) (E:U8->Vc->Prop) (Q:U8->Vc->Prop),Q (.bool b) s->Vq (model prog w) A (richCompare .Lt u v) Q E s
inductive BV (A:VZ) (s:Vc):List U8->List U8->Bool->Prop
 | nn:BV A s [] [] false
 | nc {w:U8} {ws:List U8}:BV A s [] (w::ws) true
 | cn {v:U8} {vs:List U8}:BV A s (v::vs) [] false
 | eq {v w:U8} {vs ws:List U8} {r:Bool} (e:Xj A s v w true) (h:BV A s vs ws r):BV A s (v::vs) (w::ws) r
 | ne {v w:U8} {vs ws:List U8} {r:Bool} (e:Xj A s v w false) (h:uH A s v w r):BV A s (v::vs) (w::ws) r
section
open PySem.SeqAt
open PySem.AutoSeq1 (wpAny_loadPart')
open PySem.MeetsSeq PySem.MeetsSeq2 PySem.MeetsSeq3
theorem qp (l b:VJ) (items gQ:Array U8) (n n2:Nat) (dd Nz:Option VJ) (sl IV:Array (Option U8)) (r:Bool) :
  Meets (Builtin.«tuple.__lt__» ⟨[.ref l,.ref b],[]⟩)
   (fun A R s=>s.heap.get? l=some { cls:=.type "tuple",dict:=dd,data:=.seq items n,slots:=sl }/\s.heap.get? b=some { cls:=.type "tuple",dict:=Nz,data:=.seq gQ n2,slots:=IV } /\
    BV A.in1 s items.toList gQ.toList r/\R (.ok (.ret (.bool r))) s) :=
 .of_wp fun prog w A R s h=>by
  obtain⟨hp,g,d,tk,os⟩:=s;obtain⟨hl,hb,hd,h⟩:=h;have f2:=ZK
  wp_walk using wpAny_loadPart' hl,wpAny_loadPart' hb,wpAny_forIn_list _ (fun rest b s'=>b.1=none/\s'=⟨hp,g,d,tk,os⟩/\∃(vs ws:List U8),rest=vs.zip ws /\
   BV A.in1 ⟨hp,g,d,tk,os⟩ vs ws r/\vs.length+gQ.size=ws.length+items.size) _
  case turn =>
   rintro⟨y,x⟩ rest b s' ⟨hb',rfl,vs,ws,hz,NA,hlen⟩;cases NA with
   | nn=>cases hz
   | nc=>cases hz
   | cn=>rw [List.zip_nil_right] at hz;cases hz
   | @eq v w' vs' ws' _ e hr =>
    rw [Wq] at hz;injection hz with NB hrest;injection NB with hy hx;subst hy hx;simp only [Vb] at hlen;refine U0 (e prog w _ _ ?_)
    wp_walk
    exact⟨rfl,rfl,_,_,hrest,hr,by omega⟩
   | @ne v w' vs' ws' _ e hr =>
    rw [Wq] at hz;injection hz with NB hrest;injection NB with hy hx;subst hy hx;refine U0 (e prog w _ _ ?_);have Nx:=hr prog w
    wp_walk using Nx
    exact⟨_,rfl,by simpa using h⟩
  case fin =>
   rintro⟨b1,b2⟩ s' ⟨hb',rfl,vs,ws,hz,NA,hlen⟩;simp only at hb';subst hb';have hv:r=decide (items.size<gQ.size):=by
    cases NA with
    | nn=>simp only [VH] at hlen;exact(decide_eq_false (by omega)).symm
    | nc=>simp only [VH,Vb] at hlen;exact(decide_eq_true (by omega)).symm
    | cn=>simp only [VH,Vb] at hlen;exact(decide_eq_false (by omega)).symm
    | eq e hr=>rw [Wq] at hz;cases hz
    | ne e hr=>rw [Wq] at hz;cases hz
   rw [hv] at h
   wp_walk
   exact⟨_,rfl,by simpa [Builtin.Tuple.tupleCompareSizes] using h⟩
  case h =>
   exact⟨rfl,rfl,items.toList,gQ.toList,rfl,hd,by simp;omega⟩
end
theorem uI {A:VZ} {s:Vc} {l b:VJ} {items gQ:Array U8} {r:Bool} (hl:IsTup s.heap l items) (hb:IsTup s.heap b gQ) (hu:A.units<cLine) (hd:BV A.in1 s items.toList gQ.toList r):uH A s (.ref l) (.ref b) r:=by
 intro prog w E Q h;obtain⟨⟨cls,dd,data,sl⟩,ho,hc,n,tX⟩:=id hl;obtain⟨⟨Sf,Nz,data2,IV⟩,IW,BW,n2,hd2⟩:=id hb;simp only at hc tX BW hd2;subst hc tX BW hd2;exact richCompare_meets_room (op:=.Lt) ⟨_,ho,rfl⟩ ⟨_,IW,rfl⟩ PySem.F.slot_tuple_lt PySem.F.entry_tuple_lt (PySem.F.args_tuple_lt_2 _ _) (qp l b items gQ n n2 dd Nz sl IV r)
  ⟨ho,IW,hd,show Value.bool r≠Value.notImplemented/\Q (.bool r) s from⟨(fun x=>nomatch x),h⟩⟩ hu
end L2
namespace M
open PySem PySem.Spec PyProof.Rows
def ox (f:T->T->Bool):List T->List T->Bool
 | [],[]=>false
 | [],_::_=>true
 | _::_,[]=>false
 | a::r,b::q=>if a=b then ox f r q else f a b
def ltN:Nat->T->T->Bool
 | _+1,.int a,.int b=>decide (a<b)
 | _+1,.int _,.str _=>true
 | _+1,.int _,.tup _=>true
 | _+1,.str a,.str b=>decide (a<b)
 | _+1,.str _,.tup _=>true
 | n+1,.tup a,.tup b=>ox (ltN n) a b
 | _,_,_=>false
noncomputable def shl (f:T->T->Bool):List T->List T->Bool
 | a::r,b::q=>f a b && shl f r q
 | _,_=>true
noncomputable def rY:Nat->T->T->Bool
 | _+1,.int _,.int _=>true
 | _+1,.str _,.str _=>true
 | n+1,.tup a,.tup b=>shl (rY n) a b
 | _,_,_=>false
theorem wi {f:T->T->Bool}:∀a:List T,ox f a a=false
 | []=>rfl
 | a::r=>by rw [ox,if_pos rfl];exact wi r
theorem mJ:∀(n:Nat) (a:T),ltN n a a=false
 | 0,a=>by cases a <;> rfl
 | n+1,a=>by
  cases a <;> first|rfl|skip
  ·exact decide_eq_false (Z4 _)
  ·exact decide_eq_false (ZA _)
  ·exact wi _
theorem wj {f:T->T->Bool} {n:Nat} (hf:∀a b,kd n a=true->kd n b=true->a≠b->f a b=true\/f b a=true):∀a b:List T,a.all (kd n)=true->b.all (kd n)=true->a≠b->ox f a b=true\/ox f b a=true
 | [],[],_,_,h=>absurd rfl h
 | [],_::_,_,_,_=>.inl rfl
 | _::_,[],_,_,_=>.inr rfl
 | a::r,b::q,ha,hb,h=>by
  rw [VU,Ve] at ha hb;rw [ox,ox];by_cases e:a=b
  ·subst e
   rw [if_pos rfl,if_pos rfl];exact wj hf r q ha.2 hb.2 fun z=>h (by rw [z])
  ·rw [if_neg e,if_neg (WA e)]
   exact hf a b ha.1 hb.1 e
theorem qq {a b:Cs} (h:a≠b):a<b\/b<a:=by
 by_cases h1:a<b
 ·exact .inl h1
 ·by_cases h2:b<a
  ·exact .inr h2
  ·exact absurd (List.le_antisymm (List.not_lt.mp h2) (List.not_lt.mp h1)) h
theorem jX:∀(n:Nat) (a b:T),kd n a=true->kd n b=true->a≠b->ltN n a b=true\/ltN n b a=true
 | 0,a,_,h,_,_=>(Gy h).elim
 | n+1,a,b,ha,hb,h=>by
  cases a <;> first|cases ha|skip
  ·cases b <;> first|cases hb|skip
   ·rename_i i j
    show decide (i<j)=true\/decide (j<i)=true;rw [decide_eq_true_eq,decide_eq_true_eq];have:i≠j:=fun e=>h (by rw [e])
    omega
   ·exact .inl rfl
   ·exact .inl rfl
  ·cases b <;> first|cases hb|skip
   ·exact .inr rfl
   ·rename_i i j
    show decide (i<j)=true\/decide (j<i)=true;rw [decide_eq_true_eq,decide_eq_true_eq];exact qq fun e=>h (by rw [e])
   ·exact .inl rfl
  ·cases b <;> first|cases hb|skip
   ·exact .inr rfl
   ·exact .inr rfl
   ·exact wj (fun a b=>jX n a b) _ _ ha hb fun e=>h (by rw [e])
theorem pf {f:T->T->Bool} (El:∀a,f a a=false) (hf:∀a b c,f a b=true->f b c=true->f a c=true):∀a b c:List T,ox f a b=true->ox f b c=true->ox f a c=true
 | [],[],_,h1,_=>by cases h1
 | [],_::_,[],_,h2=>by cases h2
 | [],_::_,_::_,_,_=>rfl
 | _::_,[],_,h1,_=>by cases h1
 | _::_,_::_,[],_,h2=>by cases h2
 | a::r,b::q,c::t,h1,h2=>by
  rw [ox] at h1 h2 ⊢;by_cases e1:a=b
  ·subst e1
   rw [if_pos rfl] at h1;by_cases e2:a=c
   ·subst e2
    rw [if_pos rfl] at h2 ⊢;exact pf El hf r q t h1 h2
   ·rw [if_neg e2] at h2 ⊢;exact h2
  ·rw [if_neg e1] at h1
   by_cases e2:b=c
   ·subst e2
    rw [if_neg e1];exact h1
   ·rw [if_neg e2] at h2
    have h3:=hf a b c h1 h2;have e3:a≠c:=fun z=>by subst z;rw [El] at h3;cases h3
    rw [if_neg e3];exact h3
theorem NC {n:Nat} {a b:T} (h:ltN (n+1) a b=true):(∃i,a=.int i)\/(∃z,a=.str z)\/∃xs,a=.tup xs:=by
 cases a with
 | int i=>exact .inl ⟨i,rfl⟩
 | str z=>exact .inr (.inl ⟨z,rfl⟩)
 | tup xs=>exact .inr (.inr ⟨xs,rfl⟩)
 | _=>cases h
theorem JV {n:Nat} {i:Int} {b:T} (h:ltN (n+1) (.int i) b=true):(∃j,b=.int j/\i<j)\/(∃z,b=.str z)\/∃xs,b=.tup xs:=by
 cases b with
 | int j=>exact .inl ⟨j,rfl,of_decide_eq_true h⟩
 | str z=>exact .inr (.inl ⟨z,rfl⟩)
 | tup xs=>exact .inr (.inr ⟨xs,rfl⟩)
 | _=>cases h
theorem GI {n:Nat} {z:Cs} {b:T} (h:ltN (n+1) (.str z) b=true):(∃y,b=.str y/\z<y)\/∃xs,b=.tup xs:=by
 cases b with
 | str y=>exact .inl ⟨y,rfl,of_decide_eq_true h⟩
 | tup xs=>exact .inr ⟨xs,rfl⟩
 | _=>cases h
theorem CQ {n:Nat} {xs:List T} {b:T} (h:ltN (n+1) (.tup xs) b=true):∃ys,b=.tup ys/\ox (ltN n) xs ys=true:=by
 cases b with
 | tup ys=>exact⟨ys,rfl,h⟩
 | _=>cases h
theorem dI:∀(n:Nat) (a b c:T),ltN n a b=true->ltN n b c=true->ltN n a c=true
 | 0,a,b,_,h,_=>by cases h
 | n+1,a,b,c,h1,h2=>by
  rcases NC h1 with⟨i,rfl⟩|⟨z,rfl⟩|⟨xs,rfl⟩
  ·rcases JV h1 with⟨j,rfl,hj⟩|⟨y,rfl⟩|⟨ys,rfl⟩
   ·rcases JV h2 with⟨k,rfl,hk⟩|⟨_,rfl⟩|⟨_,rfl⟩
    ·exact decide_eq_true (Int.lt_trans hj hk)
    ·rfl
    ·rfl
   ·rcases GI h2 with⟨_,rfl,_⟩|⟨_,rfl⟩ <;> rfl
   ·obtain⟨_,rfl,_⟩:=CQ h2;rfl
  ·rcases GI h1 with⟨y,rfl,hy⟩|⟨ys,rfl⟩
   ·rcases GI h2 with⟨x,rfl,hx⟩|⟨_,rfl⟩
    ·exact decide_eq_true (aaU hy hx)
    ·rfl
   ·obtain⟨_,rfl,_⟩:=CQ h2;rfl
  ·obtain⟨ys,rfl,hy⟩:=CQ h1
   obtain⟨zs,rfl,hz⟩:=CQ h2;exact pf (mJ n) (dI n) _ _ _ hy hz
theorem GJ {n:Nat} {f:Nat->T} (hk:∀i,kd n (f i)=true):L2.WO (fun i j=>ltN n (f i) (f j)):=by
 refine⟨fun a b h=>?_,fun a b c h1 h2=>?_⟩
 ·cases e:ltN n (f b) (f a) with
  | false=>rfl
  | true=>have z:=dI n _ _ _ h e;rw [mJ] at z;cases z
 ·cases e:ltN n (f c) (f a) with
  | false=>rfl
  | true =>
   by_cases e1:f a=f b
   ·rw [e1] at e;rw [e] at h2;cases h2
   ·rcases jX n _ _ (hk a) (hk b) e1 with q|q
    ·rw [dI n _ _ _ e q] at h2;cases h2
    ·rw [q] at h1;cases h1
noncomputable def fJ (l:List T):Prop:=l.Pairwise fun x y=>ltN 8 y x=false
theorem jY {a b:List T} (hk:a.all (kd 8)=true) (p:a.Perm b) (ha:fJ a) (hb:fJ b):a=b :=
 List.Perm.eq_of_pairwise (fun x y hx hy h1 h2=>by
  by_cases e:x=y
  ·exact e
  ·have k:=U7.mp hk
   rcases jX 8 _ _ (k x hx) (k y (p.mem_iff.mpr hy)) e with q|q
   ·rw [q] at h2;cases h2
   ·rw [q] at h1;cases h1) ha hb p
open Classical in
def jZ (l:List T):List T:=if h:∃l',l'.Perm l/\fJ l' then choose h else l
theorem qr {l l':List T} (hk:l.all (kd 8)=true) (p:l'.Perm l) (h:fJ l'):jZ l=l':=by
 have ex:∃l',l'.Perm l/\fJ l':=⟨l',p,h⟩;unfold jZ;rw [dif_pos ex];have z:=Classical.choose_spec ex
 have hk':(Classical.choose ex).all (kd 8)=true:=U7.mpr fun x hx=>U7.mp hk x (z.1.mem_iff.mp hx)
 exact jY hk' (z.1.trans p.symm) z.2 h
noncomputable def rD:T->Bool
 | .tup (.str _::_)=>true
 | _=>false
noncomputable def CS:T->Bool
 | .tup (.int _::_)=>true
 | _=>false
def iC (fz:Bool):Fn:=fun xs L=>match xs with
 | [x]=>match vw L x with
  | .lst ys=>b8 (ys.length<64/\ys.all (kd 8)=true/\(ys.all rD=true\/ys.all CS=true)/\(ys.all fun a=>ys.all fun b=>rY 8 a b)=true) (eC fz (jZ ys) L)
  | _=>.bad
 | _=>.bad
end M
namespace M
open PySem PySem.W PySem.Calls PyProof.Rows L2
section
variable {A:VZ} {s:Vc}
theorem Em {n:Nat}:∀(a b:List T) (vs ws:List U8),vs.length=a.length->ws.length=b.length->shl (rY n) a b=true ->
  (∀j (h1:j<a.length) (h2:j<b.length) (h3:j<vs.length) (h4:j<ws.length),Xj A s vs[j] ws[j] (decide (a[j]=b[j]))/\(rY n a[j] b[j]=true->uH A s vs[j] ws[j] (ltN n a[j] b[j])))->BV A s vs ws (ox (ltN n) a b)
 | [],[],[],[],_,_,_,_=>.nn
 | [],b::q,[],w::ws,_,_,_,_=>.nc
 | a::r,[],v::vs,[],_,_,_,_=>.cn
 | a::r,b::q,v::vs,w::ws,l1,l2,hs,h=>by
  rw [shl,Ve] at hs;obtain⟨h0,h0'⟩:=h 0 (by simp) (by simp) (by simp) (by simp);have h0:Xj A s v w (decide (a=b)):=h0
  have h0':rY n a b=true->uH A s v w (ltN n a b):=h0';rw [ox];by_cases e:a=b
  ·rw [decide_eq_true e] at h0
   rw [if_pos e];exact .eq h0 (Em r q vs ws (by simpa using l1) (by simpa using l2) hs.2 fun j a1 a2 a3 a4=>h (j+1) (by simpa using a1) (by simpa using a2) (by simpa using a3) (by simpa using a4))
  ·rw [decide_eq_false e] at h0
   rw [if_neg e];exact .ne h0 (h0' hs.1)
 | [],[],_::_,_,l,_,_,_=>by simp at l
 | [],[],[],_::_,_,l,_,_=>by simp at l
 | [],_::_,_::_,_,l,_,_,_=>by simp at l
 | [],_::_,[],[],_,l,_,_=>by simp at l
 | _::_,_,[],_,l,_,_,_=>by simp at l
 | _::_,[],_::_,_::_,_,l,_,_=>by simp at l
 | _::_,_::_,_::_,[],_,l,_,_=>by simp at l
theorem cP.lt:∀(n:Nat) {A:VZ} {a b:T} {u v:U8},kd n a=true->kd n b=true->rY n a b=true->A.units+n<cLine->cP s.heap a u->cP s.heap b v->uH A s u v (ltN n a b)
 | 0,_,a,_,_,_,h,_,_,_,_,_=>(Gy h).elim
 | n+1,A,a,b,u,v,ha,hb,hs,hu,ka,kb=>by
  cases ka with
  | int i t =>
   cases kb with
   | int j t2=>exact fun prog w E Q h=>(PyProof.Rows.lt_int h:Vq (model prog w) A (compareOp .Lt _ _) Q E s)
   | _=>cases hs
  | str z t =>
   cases kb with
   | str z2 t2=>exact fun prog w E Q h=>(aaL (show Q (.bool (decide ((⟨z.toArray⟩:Str).cps.toList<(⟨z2.toArray⟩:Str).cps.toList))) s from h):Vq (model prog w) A (compareOp .Lt _ _) Q E s)
   | _=>cases hs
  | tup ho hc hd hl hi =>
   cases kb with
   | tup ho' hc' hd' hl' hi' =>
    rename_i a1 o1 i1 n1 x1 a2 o2 i2 n2 x2;refine uI ⟨_,ho,hc,_,hd⟩ ⟨_,ho',hc',_,hd'⟩ (by omega) (Em x1 x2 i1.toList i2.toList (by simp [hl]) (by simp [hl']) hs fun j c1 c2 c3 c4=>?_);have k1:=hi j _ _ (Ge9 c1) (show i1[j]?=some i1.toList[j] by simp)
    have k2:=hi' j _ _ (Ge9 c2) (show i2[j]?=some i2.toList[j] by simp);have d1:=ie ha (Ge9 c1)
    have d2:=ie hb (Ge9 c2);exact⟨cP.eq n d1 d2 (by show A.units+1+n<cLine;omega) k1 k2,fun sh=>cP.lt n d1 d2 sh (by show A.units+1+n<cLine;omega) k1 k2⟩
   | _=>cases hs
end
section
variable {prog:Wh} {w:Xg} {A:VZ} {E:U8->Vc->Prop} {s:Vc} {Q:Bool->Vc->Prop} {n:Nat}
theorem kat_tail:∀(a b:List T) (vs ws:List U8) (i:Nat),0<i->vs.length=a.length->ws.length=b.length->shl (rY n) a b=true ->
  (∀j (h1:j<a.length) (h2:j<b.length) (h3:j<vs.length) (h4:j<ws.length),Xj A s vs[j] ws[j] (decide (a[j]=b[j]))/\(rY n a[j] b[j]=true->uH A s vs[j] ws[j] (ltN n a[j] b[j]))) ->
  ∀fin,fin=decide (vs.length<ws.length)->Q (ox (ltN n) a b) s->KatLex prog w A true fin Q (vs.zip ws) i s
 | [],[],[],[],i,_,_,_,_,_,fin,hf,h=>by rw [ox] at h;simp at hf;subst hf;exact kat_nil h
 | [],b::q,[],w'::ws,i,_,_,_,_,_,fin,hf,h=>by rw [ox] at h;simp at hf;subst hf;exact kat_nil h
 | a::r,[],v::vs,[],i,_,_,_,_,_,fin,hf,h=>by rw [ox] at h;simp at hf;subst hf;exact kat_nil h
 | a::r,b::q,v::vs,w'::ws,i,hi,l1,l2,hs,hx,fin,hf,h=>by
  rw [shl,Ve] at hs;obtain⟨h0,h0'⟩:=hx 0 (by simp) (by simp) (by simp) (by simp);have h0:Xj A s v w' (decide (a=b)):=h0
  have h0':rY n a b=true->uH A s v w' (ltN n a b):=h0';rw [ox] at h;rw [Wq];refine kat_cons (h0 prog w _ _ ?_);by_cases e:a=b
  ·rw [if_pos e] at h
   rw [decide_eq_true e];exact kat_yes (kat_tail r q vs ws (i+1) (by omega) (by simpa using l1) (by simpa using l2) hs.2 (fun j a1 a2 a3 a4=>hx (j+1) (by simpa using a1) (by simpa using a2) (by simpa using a3) (by simpa using a4)) fin (by simpa using hf) h)
  ·rw [if_neg e] at h
   rw [decide_eq_false e];refine kat_no ?_;have ei:(true && i == 0)=false:=by
    simp only [X8,beq_eq_false_iff_ne];omega
   rw [ei];exact kat_one _ _ (h0' hs.1 prog w _ _ h)
 | [],[],_::_,_,_,_,l,_,_,_,_,_,_=>by simp at l
 | [],[],[],_::_,_,_,_,l,_,_,_,_,_=>by simp at l
 | [],_::_,_::_,_,_,_,l,_,_,_,_,_,_=>by simp at l
 | [],_::_,[],[],_,_,_,l,_,_,_,_,_=>by simp at l
 | _::_,_,[],_,_,_,l,_,_,_,_,_,_=>by simp at l
 | _::_,[],_::_,_::_,_,_,_,l,_,_,_,_,_=>by simp at l
 | _::_,_::_,_::_,[],_,_,_,l,_,_,_,_,_=>by simp at l
theorem JW {t u:T} {vx vy:U8} (hA:A.units+8<cLine) (hk:kd 8 t=true) (hk':kd 8 u=true) (hh:(rD t=true/\rD u=true)\/(CS t=true/\CS u=true)) (hs:rY 8 t u=true) (k1:cP s.heap t vx) (k2:cP s.heap u vy) (hC:Q (ltN 8 t u) s) :
  Vq (model prog w) A (keyLt' (tuples' true) vx vy) Q E s:=by
 have go:∀{a b:T} {r q:List T},t=.tup (a::r)->u=.tup (b::q)->((∃x y,a=.str x/\b=.str y)\/∃x y,a=.int x/\b=.int y)->Vq (model prog w) A (keyLt' (tuples' true) vx vy) Q E s:=fun {a b r q} et eu hab=>by
  subst et eu;cases k1 with
  | tup ho hc hd hl hi =>
   cases k2 with
   | tup ho' hc' hd' hl' hi' =>
    rename_i a1 o1 i1 n1 a2 o2 i2 n2;have Qe:∀j (h:j<(a::r).length) (h':j<i1.toList.length),cP s.heap (a::r)[j] i1.toList[j]:=fun j h h'=>hi j _ _ (Ge9 h) (by simp)
    have at2:∀j (h:j<(b::q).length) (h':j<i2.toList.length),cP s.heap (b::q)[j] i2.toList[j]:=fun j h h'=>hi' j _ _ (Ge9 h) (by simp)
    refine kat_lt ho hd ho' hd' ?_;obtain⟨l1⟩:=i1;obtain⟨l2⟩:=i2;simp only [Ww] at hl hl';cases l1 with
    | nil=>simp at hl
    | cons v vs =>
     cases l2 with
     | nil=>simp at hl'
     | cons w' ws =>
      have e0:=Qe 0 (by simp) (by simp);have f0:=at2 0 (by simp) (by simp)
      have e0:cP s.heap a v:=e0;have f0:cP s.heap b w':=f0
      have hs:shl (rY 7) (a::r) (b::q)=true:=hs;rw [shl,Ve] at hs;have Qf:(a::r).all (kd 7)=true:=hk
      have Qg:(b::q).all (kd 7)=true:=hk';have hC:Q (ox (ltN 7) (a::r) (b::q)) s:=hC
      rw [ox] at hC;have q0:=cP.eq 7 (s:=s) (A:=A) (ie Qf (i:=0) rfl) (ie Qg (i:=0) rfl) (by omega) e0 f0
      show KatLex prog w A true _ Q ((v::vs).zip (w'::ws)) 0 s;rw [Wq];refine kat_cons (q0 prog w _ _ ?_);by_cases e:a=b
      ·rw [if_pos e] at hC
       rw [decide_eq_true e];refine kat_yes (kat_tail (n:=7) r q vs ws 1 (by omega) (by simpa using hl.symm) (by simpa using hl'.symm) hs.2 (fun j c1 c2 c3 c4=>?_) _ (by simp) hC);have z1:cP s.heap r[j] vs[j]:=Qe (j+1) (by simpa using c1) (by simpa using c3)
       have z2:cP s.heap q[j] ws[j]:=at2 (j+1) (by simpa using c2) (by simpa using c4);have d1:kd 7 r[j]=true:=ie Qf (i:=j+1) (by simp [c1])
       have d2:kd 7 q[j]=true:=ie Qg (i:=j+1) (by simp [c2]);exact⟨cP.eq 7 d1 d2 (by omega) z1 z2,fun sh=>cP.lt 7 d1 d2 sh (by omega) z1 z2⟩
      ·rw [if_neg e] at hC
       rw [decide_eq_false e];refine kat_no ?_;show Vq (model prog w) A (oneLt' true v w') Q _ s
       rcases hab with⟨x,y,rfl,rfl⟩|⟨x,y,rfl,rfl⟩
       ·cases e0;cases f0
        exact oneLt_str hC
       ·cases e0;cases f0
        exact oneLt_int hC
 rcases hh with⟨h1,h2⟩|⟨h1,h2⟩
 ·unfold rD at h1 h2
  split at h1
  ·split at h2
   ·exact go rfl rfl (.inl ⟨_,_,rfl,rfl⟩)
   ·cases h2
  ·cases h1
 ·unfold CS at h1 h2
  split at h1
  ·split at h2
   ·exact go rfl rfl (.inr ⟨_,_,rfl,rfl⟩)
   ·cases h2
  ·cases h1
end
section
variable {X:Cx}
theorem ph {h:Heap}:∀{vs fs:List U8},vs.length=fs.length->(∀i (h1:i<vs.length) (h2:i<fs.length),∃a o xs n,vs[i]=.ref a/\h.get? a=some o/\o.cls=.type "tuple"/\o.data=.seq xs n/\xs[0]?=some fs[i])->KatTups h vs fs
 | [],[],_,_=>.nil
 | [],_::_,l,_=>by simp at l
 | _::_,[],l,_=>by simp at l
 | v::vs,f::fs,l,hh=>by
  obtain⟨a,o,xs,n,e,e1,e2,e3,e4⟩:=hh 0 (by simp) (by simp);have e:v=.ref a:=e
  have e4:xs[0]?=some f:=e4;subst e;exact .cons e1 e2 e3 e4 (ph (by simpa using l) fun i h1 h2=>hh (i+1) (by simpa using h1) (by simpa using h2))
theorem wm {g:G} {ys:List T} {us:List U8} (r:cG g ys us):∀(p:List Nat),(∀i∈p,i<ys.length)->cG g (p.map fun i=>ys.getD i (.int 0)) (p.map fun i=>us.getD i Wr)
 | [],_=>.nil
 | i::p,h=>by
  refine .cons ?_ (wm r p fun j hj=>h j (U5 _ hj));have hi:=h i U4
  obtain⟨u,e,q⟩:=ub r (Ge9 hi);simp only [Gd9,e,Ge9 hi,Xi];exact q
theorem CT {pins:bf} {φ:Fr} {g:G} {L L2:aa} {s:Vc} {fz:Bool} {xs:List T} {us:List U8} {w:T} {t' n:Nat} {h':Heap} {a:VJ} (I:Inv X pins φ g L s) (r:cG g xs us) (h:eC fz xs L=.ok w L2) (k:∀b u,s.heap.get? b=some u->h'.get? b=some u) (ha:s.heap.objs.size<=a) (new:h'.get? a=some { cls:=.type "list",data:=.seq us.toArray n }) :
  EP X pins φ g w L2 (.ref a) { s with heap:=h',toks:=t' }:=by
 have f:=I.hok.fresh ha;unfold eC b8 at h;split at h
 ·rename_i hz
  unfold mk at h;split at h
  ·cases h
   exact⟨_,Le.lay f,I.laid k ha new,r.lst (n:=n) (o:=default) (Le.lay f) (.inl rfl) (.inl ar) hz⟩
  ·cases h
   refine⟨_,Le.new f,I.new k ha new (r.lst (n:=n) (o:=default) (Le.new f) (.inr rfl) (.inl ar) hz),?_⟩;have:=I.rel.len
   exact .ref (p:=(a,a)) (by show at_ ((_,_)::g.α) _=_;rw [<- this];exact fk)
 ·cases h
end
end M
namespace M
open PySem PySem.Spec PyProof.Rows
open Classical in
def rZ:List T->List T
 | []=>[]
 | x::r=>if x∈r then rZ r else x::rZ r
noncomputable def cJ (ys:List T):Prop:=ys.length<64/\ys.all (kd 8)=true/\(ys.all rD=true\/ys.all CS=true)/\(ys.all fun a=>ys.all fun b=>rY 8 a b)=true
noncomputable instance (ys:List T):Decidable (cJ ys):=by unfold cJ;exact inferInstance
def nz (fz:Bool):Fn:=fun xs L=>match xs with
 | [x]=>match vw L x with
  | .lst ys=>b8 (cJ ys/\ys.all (kd 6)=true/\ys.all rD=true) (eC fz (jZ (rZ ys)) L)
  | _=>.bad
 | _=>.bad
def ly (fz:Bool):Fn:=fun xs L=>match xs with
 | [x]=>match vw L x with
  | .aU ks=>b8 (cJ (prs ks)) (eC fz (jZ (prs ks)) L)
  | _=>.bad
 | _=>.bad
def ij:Fn:=fun xs L=>match xs with
 | [x,y]=>match vw L x,vw L y with
  | .lst a,.lst b=>b8 (a.length<=b.length) (yq (zp a b) L)
  | .lst a,.tup b=>b8 (a.length<=b.length) (yq (zp a b) L)
  | _,_=>.bad
 | _=>.bad
def Sh:T->Fn:=fun x ts L=>match x,ts with
 | .ref n,[t]=>match at_ L n with
  | some (.lst xs)=>b8 (dat 8 t=true/\xs.all (dat 8)=true) (match xs.findIdx? fun y=>eqT y t with
   | some j=>.ok .b7 (put L n (.lst (xs.eraseIdx j)))
   | none=>.bad)
  | _=>.bad
 | _,_=>.bad
def CU (L:aa) (t:T) (L':aa):R T:=match t with
 | .ref n=>match at_ L' n with
  | some (.lst xs)=>b8 (L.length<=n) (fin L (.lst xs) (put L' n (.ref n)) |>.bind fun t L1=>.ok (.ref L.length) (t::L1))
  | _=>.bad
 | _=>.bad
def xy (np nn:Nat) (b:SS):Fn:=fun xs L=>if xs.length=np then match b (xs.map some++VI (nn - np) none) L with
  | .rt t L'=>CU L t L'
  | _=>.bad
 else .bad
end M
namespace M
open PySem
structure Ct where
 fn:List (Str × Fn)
 co:List (Str × T)
 me:List (Str × List (Str × Fn))
 fl:List Str
 us:List Str
 lv:List (Nat × Nat)
structure Sg where
 N:List Str
 sc:Scope
structure Bd where
 E:Expr->SE
 T:Expr->ST
 S:Stmt->SS
noncomputable def Ct.fz (Γ:Ct) (p:Pos):Bool:=!(Γ.lv.any fun q=>q.1 == p.line && q.2 == p.col)
noncomputable def IX (N:List Str) (x:Str):Option Nat:=N.findIdx? (· == x)
noncomputable def Sg.at (S:Sg) (x:Str):Option Nat:=match S.sc.names.lookup x with
 | some .local=>IX S.N x
 | some .cell=>IX S.N x
 | some .free=>IX S.N x
 | _=>none
noncomputable def Sg.own (S:Sg) (x:Str):Option Nat:=match S.sc.names.lookup x with
 | some .local=>IX S.N x
 | some .cell=>IX S.N x
 | _=>none
noncomputable def Sg.gl (S:Sg) (x:Str):Bool:=match S.sc.names.lookup x with
 | some .globalImplicit=>true
 | _=>false
def vi (n:Nat) (k:Int):SE:=b2 (v n) (c (.int k)) ix
def blt (x:Str) (fz:Bool):Option Fn:=[(("len":Str),bH),("list",cF fz),("tuple",iz),("all",rH),("any",xi),("min",yn),("str",t9),("int",xj),("dict",ic),("sorted",iC fz)].lookup x
noncomputable def S (s:String):Cs:=(WC s).cps.toList
noncomputable def aG:Ty->Option (T->Fn):=fun y=>match y with|.l=>some B2|_=>none
noncomputable def iD:Ty->Option (T->Fn):=fun y=>match y with|.l=>some yo|_=>none
noncomputable def iY:Ty->Option (T->Fn):=fun y=>match y with|.l=>some vK|.t=>some vL|_=>none
noncomputable def qt:Ty->Option (T->Fn):=fun y=>match y with|.t=>some B3|_=>none
noncomputable def lz:Ty->Option (T->Fn):=fun y=>match y with|.s=>some lS|_=>none
noncomputable def mL (fz:Bool):Ty->Option (T->Fn):=fun y=>match y with|.s=>some (mV fz)|_=>none
noncomputable def mM:Ty->Option (T->Fn):=fun y=>match y with|.s=>some mW|_=>none
def bS:Ty->Option (T->Fn):=fun y=>match y with|.d=>some je|_=>none
def gR:Ty->Option (T->Fn):=fun y=>match y with|.d=>some yp|_=>none
def Qh (x:Str) (fz:Bool):Option (Ty->Option (T->Fn)):=[(("append":Str),aG),("extend",iD),("count",iY),("index",qt),("join",lz),("split",mL fz),("strip",mM),("get",bS),("setdefault",gR)].lookup x
noncomputable def lA:List SE->SE
 | []=>no
 | a::r=>match r with
  | []=>a
  | _::_=>B1 a (lA r)
noncomputable def BX:List SE->SE
 | []=>no
 | a::r=>match r with
  | []=>a
  | _::_=>My a (BX r)
noncomputable def jf:List ST->ST
 | []=>no
 | a::r=>match r with
  | []=>a
  | _::_=>B0 a (jf r)
noncomputable def xA:List ST->ST
 | []=>no
 | a::r=>match r with
  | []=>a
  | _::_=>Mx a (xA r)
noncomputable def eName (Γ:Ct) (S:Sg) (x:Str):SE:=match S.at x with
 | some i=>v i
 | none=>match S.gl x with
  | true=>match Γ.co.lookup x with
   | some t=>c t
   | none=>match Γ.us.contains x,([(("bool":Str),"bool"),("int","int"),("str","str"),("list","list"),("tuple","tuple")]:List (Str × String)).lookup x with
    | true,some n=>c (.cl (.type n))
    | _,_=>no
  | false=>no
noncomputable def GK:Const->SE
 | .int i=>c (.int i)
 | .bool b=>c (.bl b)
 | .none=>c .b7
 | .str x=>match decide (x.cps.toList.length<=lim) with
  | true=>c (.str x.cps.toList)
  | false=>no
 | _=>no
def zL (B:Bd) (a:Expr) (ops:List CmpOp) (es:List Expr):SE:=match ops with
 | []=>no
 | op::r=>match r with
  | []=>match es with
   | [b]=>match behindInMarks op b with
    | false=>b2 (B.E a) (B.E b) (cmp op)
    | true=>no
   | _=>no
  | oQ::r'=>match r' with
   | []=>match es with
    | [b,d]=>match lastMarks [op,oQ] [b,d] with
     | false=>xg op oQ (B.E a) (B.E b) (B.E d)
     | true=>no
    | _=>no
   | _::_=>no
def MI (B:Bd) (a b:Expr):SE:=match xr b with
 | true=>b2 (B.E a) (B.E b) ix
 | false=>no
def JX (Γ:Ct) (B:Bd) (a b:Expr) (p:Pos):SE:=match b with
 | .Slice lo hi st _=>match st with
  | none=>sl (Γ.fz p) (B.E a) (lo.map B.E) (hi.map B.E)
  | some _=>MI B a b
 | _=>MI B a b
noncomputable def GL (a:Option Nat) (b:Option (List Nat)):Option (List Nat):=match a with
 | some i=>match b with
  | some is=>some (i::is)
  | none=>none
 | none=>none
noncomputable def zM (S:Sg):List Expr->Option (List Nat)
 | []=>some []
 | .Name x _::r=>GL (S.own x) (zM S r)
 | _=>none
noncomputable def ND (S:Sg):Expr->Option Tg
 | .Name x _=>(S.own x).map .one
 | .Tuple ts _ _=>(zM S ts).map .many
 | _=>none
noncomputable def isTup:Expr->Bool
 | .Tuple ..=>true
 | _=>false
def En (Γ:Ct) (B:Bd) (S:Sg) (tg e:Expr) (x:Str) (es:List Expr):SI:=match S.gl x && Γ.us.contains x && es.all bh with
 | true=>match x == ("range":Str) with
  | true=>match es with
   | [a]=>yl (c (.int 0)) (B.E a)
   | [a,b]=>yl (B.E a) (B.E b)
   | _=>src (B.E e)
  | false=>match es with
   | [a]=>match x == ("enumerate":Str) with
    | true=>match isTup tg with
     | true=>Mz (B.E a)
     | false=>src (B.E e)
    | false=>src (B.E e)
   | _=>src (B.E e)
 | false=>src (B.E e)
def stI (Γ:Ct) (B:Bd) (S:Sg) (tg e:Expr):SI:=match e with
 | .Call (.Name x _) es [] _=>En Γ B S tg e x es
 | e=>src (B.E e)
noncomputable def inN (sc:Scope):List Str:=(sc.names.filter fun y=>match y.2 with
 | .local=>true
 | .free=>true
 | _=>false).map (·.1)
noncomputable def zN (x:Str):Bool:=!(x == ("__debug__":Str)) && !(x == ("__classdict__":Str))
noncomputable def uJ (S:Sg) (sc:Scope):Bool:=(match sc.kind with
  | .function=>true
  | _=>false) && (sc.names.all fun y=>match y.2 with
  | .cell=>false
  | .local=>(match sc.names.lookup y.1 with
   | some .local=>true
   | _=>false)
  | .free=>(match S.sc.names.lookup y.1 with
   | some .cell=>true
   | some .free=>true
   | _=>false)
  | _=>true) && decide (inN sc).Nodup && (inN sc).all zN
noncomputable def aY (S:Sg) (sc:Scope):List (Option Nat):=(inN sc).map fun y=>match sc.names.lookup y with
 | some .free=>S.at y
 | _=>none
noncomputable def tests (B:Bd):List Expr->ST
 | []=>yes
 | [k]=>B.T k
 | _=>no
def pj (Γ:Ct) (B:Sg->Bd) (S:Sg) (elt tg iter:Expr) (ifs:List Expr) (sc:Scope) (p:Pos):SE :=
 match ND ⟨inN sc,sc⟩ tg with
 | some t=>match uJ S sc && jw iter && t.slots.all (fun i=>match (aY S sc)[i]? with
   | some none=>true
   | _=>false) with
  | true=>comp (Γ.fz p) (stI Γ (B S) S tg iter) (aY S sc) t (tests (B ⟨inN sc,sc⟩) ifs) ((B ⟨inN sc,sc⟩).E elt)
  | false=>no
 | none=>no
def Eo (Γ:Ct) (S:Sg) (fz:Bool) (x y:Str) (es:List Expr):Option (Fn × List Expr):=match S.gl y && Γ.us.contains y && es.all bh && (Γ.fn.lookup y).isNone with
 | true=>match x == ("sorted":Str) && y == ("set":Str) with
  | true=>match es with
   | [e]=>some (nz fz,[e])
   | _=>none
  | false=>match x == ("dict":Str) && y == ("zip":Str) with
   | true=>match es with
    | [a,b]=>some (ij,[a,b])
    | _=>none
   | false=>none
 | false=>none
def Ep (fz:Bool) (x:Str) (o:Expr) (m:Str) (ap q:Pos):Option (Fn × List Expr):=match okBase o && (ap.endLine == q.line) && x == ("sorted":Str) && m == ("items":Str) && bh o with
 | true=>some (ly fz,[o])
 | false=>none
def nest (Γ:Ct) (S:Sg) (fz:Bool) (x:Str) (l:List Expr):Option (Fn × List Expr):=match l with
 | [e]=>match e with
  | .Call f es ks q=>match ks with
   | []=>match f with
    | .Name y _=>Eo Γ S fz x y es
    | .Attribute o m ap=>match es with
     | []=>Ep fz x o m ap q
     | _=>none
    | _=>none
   | _=>none
  | _=>none
 | _=>none
def zO (Γ:Ct) (B:Bd) (S:Sg) (x:Str) (es:List Expr) (p:Pos):SE:=match S.gl x && es.all bh with
 | true=>match Γ.fn.lookup x with
  | some F=>ae F (es.map B.E)
  | none=>match Γ.us.contains x && !es.isEmpty,blt x (Γ.fz p) with
   | true,some F=>match nest Γ S (Γ.fz p) x es with
    | some q=>ae q.1 (q.2.map B.E)
    | none=>ae F (es.map B.E)
   | _,_=>no
 | false=>no
def zP (Γ:Ct) (B:Bd) (o:Expr) (m:Str) (ap:Pos) (es:List Expr) (p:Pos):SE:=match okBase o && es.all bh && decide (es.length<30) && ap.endLine == p.line with
 | true=>match Γ.me.lookup m with
  | some mf=>pX m (fun y=>mf.lookup y) (B.E o) (es.map B.E)
  | none=>match Qh m (Γ.fz p) with
   | some f=>aN f (B.E o) (es.map B.E)
   | none=>no
 | false=>no
def Er (Γ:Ct) (B:Sg->Bd) (S:Sg):Expr->SE
 | .Name x _=>eName Γ S x
 | .Constant k _ _=>GK k
 | .BinOp a op b p=>b2 ((B S).E a) ((B S).E b) (aZ (Γ.fz p) op)
 | .UnaryOp .Not a _=>pW ((B S).E a)
 | .UnaryOp .USub a _=>b1 ((B S).E a) neg
 | .BoolOp .And es _=>lA (es.map (B S).E)
 | .BoolOp .Or es _=>BX (es.map (B S).E)
 | .Compare a ops es _=>zL (B S) a ops es
 | .IfExp k a b _=>M3 ((B S).T k) ((B S).E a) ((B S).E b)
 | .List es p=>match es.all bh with
  | true=>lst (Γ.fz p) (es.map (B S).E)
  | false=>no
 | .Tuple es _ _=>match es.all bh && decide (es.length<=1000) with
  | true=>tup (es.map (B S).E)
  | false=>no
 | .Dict [] [] p=>xh (Γ.fz p)
 | .Subscript a b p=>JX Γ (B S) a b p
 | .Attribute o f _=>match okBase o && Γ.fl.contains f with
  | true=>b1 ((B S).E o) (fld f)
  | false=>no
 | .ListComp elt [⟨tg,iter,ifs,0⟩] sc p=>pj Γ B S elt tg iter ifs sc p
 | .Call (.Name x _) es [] p=>zO Γ (B S) S x es p
 | .Call (.Attribute o m ap) es [] p=>zP Γ (B S) o m ap es p
 | _=>no
def Qi (B:Bd) (own:Expr->SE):Expr->ST
 | .UnaryOp .Not a _=>fF (B.T a)
 | .BoolOp .And es _=>jf (es.map B.T)
 | .BoolOp .Or es _=>xA (es.map B.T)
 | .Compare a ops es p=>tv (own (.Compare a ops es p))
 | .Name x p=>tv (own (.Name x p))
 | .Call f es ks p=>tv (own (.Call f es ks p))
 | .Subscript a b p=>tv (own (.Subscript a b p))
 | .Attribute o f p=>tv (own (.Attribute o f p))
 | .Constant k n p=>tv (own (.Constant k n p))
 | _=>no
noncomputable def Es:Expr->Bool
 | .Call ..=>true
 | .Name ..=>true
 | .Subscript ..=>true
 | .Attribute ..=>true
 | _=>false
noncomputable def NF (gs:List Comprehension):Option (Expr × Expr × List Expr):=match gs with
 | [⟨tg,iter,ifs,0⟩]=>some (tg,iter,ifs)
 | _=>none
def CV (B:Sg->Bd) (S:Sg) (i:Nat) (e:Expr):SS:=match jg e with
 | true=>asg (.one i) ((B S).E e)
 | false=>gu
def xB (Γ:Ct) (B:Sg->Bd) (S:Sg) (tg e:Expr):SS:=match tg with
 | .Name x p=>match S.own x with
  | some i=>match e with
   | .ListComp elt gs sc p=>match NF gs with
    | some (tg,iter,ifs)=>asg (.one i) (pj Γ B S elt tg iter ifs sc p)
    | none=>CV B S i e
   | _=>CV B S i e
  | none=>gu
 | .Tuple ts _ _=>match zM S ts,Es e with
  | some is,true=>asg (.many is) ((B S).E e)
  | _,_=>gu
 | .Attribute o f _=>match Γ.fl.contains f && jg e with
  | true=>jt ((B S).E o) f ((B S).E e)
  | false=>gu
 | .Subscript o i _=>match jg e with
  | true=>oB ((B S).E o) ((B S).E i) ((B S).E e)
  | false=>gu
 | _=>gu
def IY (Γ:Ct) (B:Sg->Bd) (S:Sg):Stmt->SS
 | .Pass _=>pass
 | .Break _=>brk
 | .Continue _=>cnt
 | .Expr e _=>match jg e with
  | true=>gd ((B S).E e)
  | false=>gu
 | .Return none _=>ret (c .b7)
 | .Return (some e) _=>ret ((B S).E e)
 | .If k a b _=>iff ((B S).T k) (ab (a.map (B S).S)) (ab (b.map (B S).S))
 | .Assign [tg] e _=>xB Γ B S tg e
 | .AugAssign (.Name x _) op e _=>match S.own x with
  | some i=>aug op i ((B S).E e)
  | none=>gu
 | .AugAssign (.Subscript o i _) op e _=>match xr i with
  | true=>ym op ((B S).E o) ((B S).E i) ((B S).E e)
  | false=>gu
 | .For tg e b [] _=>match ND S tg,jw e with
  | some t,true=>bG (stI Γ (B S) S tg e) t (ab (b.map (B S).S))
  | _,_=>gu
 | .While k b [] _=>rA ((B S).T k) (ab (b.map (B S).S)) lim
 | _=>gu
def step (Γ:Ct) (B:Sg->Bd) (S:Sg):Bd:=⟨Er Γ B S,Qi (B S) (Er Γ B S),IY Γ B S⟩
def cX (Γ:Ct):Nat->Sg->Bd
 | 0,_=>⟨fun _=>no,fun _=>no,fun _=>gu⟩
 | n+1,S=>step Γ (cX Γ n) S
def code (Γ:Ct) (S:Sg) (b:List Stmt):SS:=ab (b.map (cX Γ 40 S).S)
end M
namespace M
open PySem PySem.W PySem.Calls PyProof.Rows L2
section
variable {X:Cx} {pins:bf} {φ:Fr} {g:G} {L L':aa} {s:Vc}
theorem nA {A:VZ} {E:U8->Vc->Prop} {fz:Bool} {ts:List T} {its:List U8} {w:T} (hu:A.units+8<cLine) (I:Inv X pins φ g L s) (rr:cG g ts its) (ok:cJ ts) (h:eC fz (jZ ts) L=.ok w L') :
  Vq (model X.prog X.w) A (Builtin.«list.sort» ⟨[.ref s.heap.objs.size],[]⟩) (fun fin s'=>fin=.done (.ret .none)/\EP X pins φ g w L' (.ref s.heap.objs.size) s') E { s with heap:=s.heap.push (seqObj "list" its.toArray 0) }:=by
 obtain⟨MG,hk,hh,hs⟩:=ok;have nD:∀b o,s.heap.get? b=some o->b≠s.heap.objs.size:=fun b o q=>VB (Vu q)
 have GN:∀b o,s.heap.get? b=some o->(s.heap.push (seqObj "list" its.toArray 0)).get? b=some o:=fun b o q=>U1 _ q
 have hlen:its.length=ts.length:=(Vr rr).symm;have hk':=U7.mp hk
 have Si:∀i,kd 8 (ts.getD i (.int 0))=true:=fun i=>by
  cases e:ts[i]? with
  | none=>simp only [Gd9,e,aad];rfl
  | some x=>simp only [Gd9,e,Xi];exact hk' x (VN e)
 have NH:∀{h':Heap},(∀b o,s.heap.get? b=some o->h'.get? b=some o)->∀i (hi:i<ts.length) (hi':i<its.length),cP h' ts[i] its[i]:=fun {h'} kp i hi hi' =>
  (I.kept (t':=s.toks) kp).Gz 8 (hk' _ (Vp hi)) (xk rr i _ _ (Ge9 hi) (Ge9 hi'))
 refine oJ (κ:=tuples' true) (lt:=fun i j=>ltN 8 (ts.getD i (.int 0)) (ts.getD j (.int 0))) (GJ Si) (U9 _ rfl) (by omega) (fun h2 h' kp Q' hQ=>?_) (fun h' kp i j C hi hj hC=>?_) fun p h' c hp hr kp e'=>?_
 ·have hf:∀i:_root_.Fin its.length,∃f:U8,(∃a o xs n,its[i.1]=.ref a/\h'.get? a=some o/\o.cls=.type "tuple"/\o.data=.seq xs n/\xs[0]?=some f)/\((ts.all rD=true->typeOf f=pure (.type "str"))/\(ts.all CS=true->typeOf f=pure (.type "int"))):=fun⟨i,hi⟩=>by
   have hit:i<ts.length:=by omega
   have k:=NH (fun b o q=>kp b o (nD b o q) (GN b o q)) i hit hi;have tup:∃b r,ts[i]=.tup (b::r):=by
    rcases hh with hh|hh
    ·have z:=U7.mp hh _ (Vp hit)
     unfold rD at z;split at z
     ·rename_i e;exact⟨_,_,e⟩
     ·cases z
    ·have z:=U7.mp hh _ (Vp hit)
     unfold CS at z;split at z
     ·rename_i e;exact⟨_,_,e⟩
     ·cases z
   obtain⟨b,r,et⟩:=tup;have hS:ts.all rD=true->∃x,b=.str x:=fun z=>by
    have z:=U7.mp z _ (Vp hit);rw [et] at z;cases b <;> first|exact⟨_,rfl⟩|cases z
   have hI:ts.all CS=true->∃x,b=.int x:=fun z=>by
    have z:=U7.mp z _ (Vp hit);rw [et] at z;cases b <;> first|exact⟨_,rfl⟩|cases z
   rw [et] at k;generalize hv:its[i]=vv at k;cases k with
   | tup ho hc hd hl Ej =>
    rename_i a1 o1 i1 n1;have xC:0<i1.size:=by simp at hl;omega
    have k0:=Ej 0 b i1[0] rfl (Vf xC);refine⟨i1[0],⟨a1,o1,i1,n1,rfl,ho,hc,hd,Vf xC⟩,fun z=>?_,fun z=>?_⟩
    ·obtain⟨x,rfl⟩:=hS z
     generalize i1[0]=y at k0;cases k0;rfl
    ·obtain⟨x,rfl⟩:=hI z
     generalize i1[0]=y at k0;cases k0;rfl
  obtain⟨f,hf⟩:=aag.mp hf;have kt:KatTups h' its (List.ofFn f):=ph (by simp) fun i h1 h2=>by
   rw [List.getElem_ofFn];exact(hf ⟨i,h1⟩).1
  rcases hh with hh|hh
  ·refine kat_kind (s:={ s with heap:=h' }) (T:=.type "str") (by simpa using kt) (by simp at h2 ⊢;omega) (fun v hv=>?_) (by decide) ?_
   ·obtain⟨i,rfl⟩:=(List.mem_ofFn (f:=f) (a:=v)).mp hv
    exact Looks.of_pure ((hf i).2.1 hh)
   ·exact hQ
  ·refine kat_kind (s:={ s with heap:=h' }) (T:=.type "int") (by simpa using kt) (by simp at h2 ⊢;omega) (fun v hv=>?_) (by decide) ?_
   ·obtain⟨i,rfl⟩:=(List.mem_ofFn (f:=f) (a:=v)).mp hv
    exact Looks.of_pure ((hf i).2.2 hh)
   ·exact hQ
 ·have i1:i<ts.length:=by omega
  have j1:j<ts.length:=by omega
  have t1:ts.getD i (.int 0)=ts[i]:=by simp [i1]
  have t2:ts.getD j (.int 0)=ts[j]:=by simp [j1]
  have g1:its.getD i Wr=its[i]:=by rw [Gd9,Ge9 hi];rfl
  have g2:its.getD j Wr=its[j]:=by rw [Gd9,Ge9 hj];rfl
  rw [g1,g2];have hC:C (ltN 8 (ts.getD i (.int 0)) (ts.getD j (.int 0))) _:=hC
  rw [t1,t2] at hC;refine JW hu (hk' _ (Vp i1)) (hk' _ (Vp j1)) ?_ (U7.mp (U7.mp hs _ (Vp i1)) _ (Vp j1)) (NH (fun b o q=>kp b o (nD b o q) (GN b o q)) i i1 hi) (NH (fun b o q=>kp b o (nD b o q) (GN b o q)) j j1 hj) hC;rcases hh with hh|hh
  ·exact .inl ⟨U7.mp hh _ (Vp i1),U7.mp hh _ (Vp j1)⟩
  ·exact .inr ⟨U7.mp hh _ (Vp i1),U7.mp hh _ (Vp j1)⟩
 ·have hpl:p.toList.Perm (V5 its.length):=hp.2
  have e1:(V5 its.length).map (fun i=>ts.getD i (.int 0))=ts:=by
   rw [hlen];apply WJ (by simp);intro i a1 a2;simp [a2]
  have NI:jZ ts=p.toList.map (fun i=>ts.getD i (.int 0)):=by
   refine qr hk ?_ ?_
   ·have z:=hpl.map (fun i=>ts.getD i (.int 0))
    rw [e1] at z;exact z
   ·unfold fJ
    rw [X9,ZC];intro i j hi hj uB;have hi':i<p.size:=by simpa using hi
    have hj':j<p.size:=by simpa using hj
    have z:=hr i j uB (by rw [<- hp.1];exact hj');have g1:p.getD i 0=p.toList[i]:=by simp [WU,hi']
    have g2:p.getD j 0=p.toList[j]:=by simp [WU,hj']
    rw [g1,g2] at z;exact z
  rw [NI] at h;exact⟨rfl,CT (s:=s) (t':=s.toks) (n:=c) I (wm rr p.toList fun i hi=>by have:=V3.mp (hpl.mem_iff.mp hi);omega) h (fun b o q=>kp b o (nD b o q) (GN b o q)) (Vm _) e'⟩
theorem Inv.JY {h':Heap} {tk:Nat} {as:List VJ} (I:Inv X pins φ g L s) (kp:∀b o,s.heap.get? b=some o->h'.get? b=some o) (ha:∀a∈as,s.heap.objs.size<=a) :
  ∃g1,Le g g1/\Inv X pins φ g1 L { s with heap:=h',toks:=tk }/\∀a∈as,∀o,h'.get? a=some o->g1.H a=some (true,o):=by
 classical
 let g1:G:={ g with H:=fun b=>if b∈as then (h'.get? b).map fun o=>(true,o) else g.H b }
 have old:∀b,b<s.heap.objs.size->g1.H b=g.H b:=fun b hb=>if_neg fun z=>WG _ (VF hb (ha b z))
 have lt:∀b x,g.H b=some x->b<s.heap.objs.size:=fun b x q=>Vu (I.hok b x.1 x.2 q)
 have l:Le g g1:=⟨fun b o q=>(old b (lt b _ q)).trans q,fun _ _ q=>q,rfl,rfl,rfl⟩;refine⟨g1,l,I.un l ⟨fun b o q _ _=>kp b o q,fun b o q n _=>(old b (Vu q)).trans n,l.f⟩ (fun b c o q=>?_) (I.rel.le l rfl fun b o q=>old b (lt b _ q)),fun a hm o q=>?_⟩
 ·by_cases hb:b∈as
  ·have q:(if b∈as then (h'.get? b).map fun o=>(true,o) else g.H b)=some (c,o):=q
   rw [if_pos hb] at q;obtain⟨z,z1,z2⟩:=Vj.mp q;cases z2;exact z1
  ·have q:(if b∈as then (h'.get? b).map fun o=>(true,o) else g.H b)=some (c,o):=q
   rw [if_neg hb] at q;exact kp b o (I.hok b c o q)
 ·show(if a∈as then (h'.get? a).map fun o=>(true,o) else g.H a)=_
  rw [if_pos hm,q];rfl
theorem Et {a:VJ} {o:Obj} {es:Array DictEntry} {ep:Nat} {ks:List (T × T)} (D:bL X g s ks a o es ep) (h:(ks.map (·.1)).all kZ=true):∃kvs,s.heap.DictAt (ig X.prog X.w) a kvs ep/\kvs.length=ks.length/\∀(i:Nat) k x,kvs[i]?=some (k,x)->∃p,ks[i]?=some p/\p.1=k/\(∃u,RT g none k u)/\RT g none p.2 x:=by
 have sc:∀(i:Nat) p e,ks[i]?=some p->es[i]?=some e->zw p.1 e.key=true:=fun i p e e1 e2 =>
  mH (U7.mp h _ (Vo (VN e1))) (D.h1 i p e e1 e2)
 have go:∀(l:List DictEntry) (ks:List (T × T)),ks.length=l.length->(∀(i:Nat) p e,ks[i]?=some p->l[i]?=some e->zw p.1 e.key=true)->∃kvs,Pairs (ig X.prog X.w) l kvs/\kvs.length=ks.length/\kvs.map (·.1)=ks.map (·.1)/\kvs.map (·.2)=l.map (·.val):=fun l=>by
  induction l with
  | nil=>intro ks hl _;cases ks with
   | nil=>exact⟨[],.nil,rfl,rfl,rfl⟩
   | cons _ _=>cases hl
  | cons e l ih=>intro ks hl h;cases ks with
   | nil=>cases hl
   | cons p ks =>
    obtain⟨kvs,k1,k2,k3,k4⟩:=ih ks (by simpa using hl) fun i p e e1 e2=>h (i+1) p e (by simpa using e1) (by simpa using e2)
    exact⟨(p.1,e.val)::kvs,.cons (h 0 p e rfl rfl) rfl k1,by simp [k2],by simp [k3],by simp [k4]⟩
 obtain⟨kvs,k1,k2,k3,k4⟩:=go es.toList ks (by simpa using D.hl) fun i p e e1 e2=>sc i p e e1 (by simpa using e2)
 refine⟨kvs,⟨o,es,D.ho,D.hx,D.hd,fun e he=>?_,k1,by rw [k3];exact D.hn⟩,k2,fun i k x q=>?_⟩
 ·obtain⟨i,hi,rfl⟩:=W6 he
  have e1:=Ge9 (l:=ks) (i:=i) (by rw [D.hl];exact hi);exact⟨_,sc i _ _ e1 (Vf hi),D.hh i _ _ e1 (Vf hi)⟩
 ·have e1:(ks.map (·.1))[i]?=some k:=by rw [<- k3,Vs,q];rfl
  have e2:(es.toList.map (·.val))[i]?=some x:=by rw [<- k4,Vs,q];rfl
  rw [Vs] at e1 e2;obtain⟨p,p1,p2⟩:=Vj.mp e1;obtain⟨e,q1,q2⟩:=Vj.mp e2;have q1:es[i]?=some e:=by simpa using q1
  subst p2 q2;exact⟨p,p1,rfl,⟨_,D.h1 i p e p1 q1⟩,D.h2 i p e p1 q1⟩
theorem r6 {ks:List (T × T)} (h:(prs ks).all rD=true\/(prs ks).all CS=true):(ks.map (·.1)).all kZ=true:=by
 rw [U7];intro k hk;obtain⟨p,hp,rfl⟩:=U6.mp hk;have m:T.tup [p.1,p.2]∈prs ks:=U6.mpr ⟨p,hp,rfl⟩
 rcases h with h|h
 ·have z:=U7.mp h _ m
  generalize p.1=q at z ⊢;cases q <;> first|rfl|cases z
 ·have z:=U7.mp h _ m
  generalize p.1=q at z ⊢;cases q <;> first|rfl|cases z
theorem uK {fz:Bool} {ks:List (T × T)} {w:T} {a r:VJ} {o:Obj} {es:Array DictEntry} {ep:Nat} (hu:X.A.units+20<cLine) (I:Inv X pins φ g L s) (D:bL X g s ks a o es ep) (hr:s.heap.get? r=some { cls:=.type "dict_items",data:=.fields #[.ref a] }) (ok:cJ (prs ks)) (h:eC fz (jZ (prs ks)) L=.ok w L') :
  Vq (model X.prog X.w) X.A (call (.builtin "sorted") [.ref r]) (EP X pins φ g w L') F0 s:=by
 obtain⟨kvs,d1,d2,d3⟩:=Et D (r6 ok.2.2.1);refine Yk kind_sorted plain_sorted entry_sorted (args_sorted1 _) ?_;unfold Builtin.«sorted»;refine U0 (m:=checkCount "sorted" 1 1 _) (U2 ?_);refine U0 (PySem.W.kdx_collect (A:=X.A.in1) (knd:=ig X.prog X.w) (kvs:=kvs) (ep:=ep) (d:=a) I.ok.hd ⟨_,hr,rfl,rfl⟩ d1 (by rw [d2];exact D.hz) fun h' tk as kp Qj hG=>?_);obtain⟨g1,l1,I1,n1⟩:=I.JY (tk:=tk) (as:=as) kp fun a ha=>Ys (hG.above a ha)
 have rr:cG g1 (prs ks) (as.map W5):=by
  refine dH (by simp [prs,Qj,d2]) fun i x v e1 e2=>?_
  unfold prs at e1;rw [Vs] at e1 e2;obtain⟨p,p1,rfl⟩:=Vj.mp e1;obtain⟨b,b1,rfl⟩:=Vj.mp e2;obtain⟨key,k,y,f1,f2,f3⟩:=hG.pairs i b b1;obtain⟨p',q1,q2,⟨u,q3⟩,q4⟩:=d3 i k y f1;rw [p1] at q1;cases q1;subst q2;have rk:RT g none p.1 key:=zA f2 q3
  refine .tup (.inl (n1 b (VN b1) _ f3)) ⟨rfl,rfl⟩ rfl (by rw [WB];simp) rfl fun j z v e1 e2=>?_
  match j,e1,e2 with
  | 0,e1,e2=>cases e1;cases e2;exact rk.le l1
  | 1,e1,e2=>cases e1;cases e2;exact q4.le l1
  | j+2,e1,e2=>simp at e1
 refine U0 (wpAny_newList ?_ (by rw [Lm9,Qj,d2];exact D.hz));have jT:=fun E'=>nA (s:={ s with heap:=h',toks:=tk }) (E:=E') (A:=X.A.in1.in1) (by show X.A.units+1+1+8<cLine;omega) I1 rr ok h
 refine U0 (wpAny_holding (wpAny_call_entry slot_list_sort ⟨_,U9 _ rfl,rfl⟩ entry_list_sort ?body (args_list_sort _)))
 case body =>
  refine wpAny_mono (jT _) (fun fin s' z=>?_) fun _ _ z=>z
  obtain⟨rfl,z⟩:=z;exact⟨_,rfl,U2 ⟨_,rfl,z.le l1⟩⟩
theorem xD {fz:Bool} (hu:X.A.units+20<cLine):dS X (.builtin "sorted") (iC fz):=fun {pins φ g L s _ w L' _} I r h=>by
 unfold iC at h;split at h
 ·obtain⟨u,rfl,ru⟩:=bM r
  obtain⟨q,v⟩:=I.view ru;split at h
  ·rename_i ts ev
   rw [ev] at v;obtain⟨ok,h⟩:=aC h;obtain⟨a,its,n,rfl,e,rr,hz⟩:=I.lst v;obtain⟨vs⟩:=its;have hlen:=Vr rr
   have MG:=ok.1;refine Yk kind_sorted plain_sorted entry_sorted (args_sorted1 _) ?_;unfold Builtin.«sorted»;refine U0 (m:=checkCount "sorted" 1 1 _) (U2 ?_);refine U0 (collect_list (ah e) ?_ (by rw [WB];simp at hlen ⊢;omega));refine U0 (wpAny_newList ?_ (by rw [WB];simp at hlen ⊢;omega));have keep:∀b o,s.heap.get? b=some o->((s.heap.push (seqObj "list" #[] 0)).update s.heap.objs.size (Wx (·++vs.toArray))).get? b=some o:=fun b o q=>by
    have bQ:b<s.heap.objs.size:=Vu q;rw [Zd _ _ _ _ (VB bQ),X7 _ _ _ (VB bQ)];exact q
   have I1:=I.kept (t':=s.toks) keep;have jT:=fun E'=>nA (s:={ s with heap:=(s.heap.push (seqObj "list" #[] 0)).update s.heap.objs.size (Wx (·++vs.toArray)) }) (E:=E') (A:=X.A.in1.in1) (by show X.A.units+1+1+8<cLine;omega) I1 rr ok h
   refine U0 (wpAny_holding (wpAny_call_entry slot_list_sort ⟨_,U9 _ rfl,rfl⟩ entry_list_sort ?body (args_list_sort _)))
   case body =>
    refine wpAny_mono (jT _) (fun fin s' z=>?_) fun _ _ z=>z
    obtain⟨rfl,z⟩:=z;exact⟨_,rfl,U2 ⟨_,rfl,z⟩⟩
  ·cases h
 ·cases h
end
end M
namespace L2
open PySem
theorem noKeysZ:typeLookup (.type "zip") "keys"=pure none:=by rw [typeLookup_type,builtinLookup_eq_fast];kernel_rfl
theorem zip_getattr_none:typeLookup (.type "zip") "__getattr__"=pure none:=by rw [typeLookup_type,builtinLookup_eq_fast];kernel_rfl
theorem entry_zip_getattribute:entryFor table "zip.__getattribute__"=some Builtin.«object.__getattribute__» :=
 entryFor_alias (id':="object.__getattribute__") (by kernel_rfl) (by decide +kernel) (by decide +kernel) (by kernel_rfl)
theorem meets_miss_zip (a:VJ) (xs:Array U8) (sl:Array (Option U8)) (name:Str) (u:Tok) (hmiss:typeLookup (.type "zip") name=pure none) (hname:(["__module__","__name__","__qualname__","__doc__","__annotations__"]:List Str).contains name=false) (hsz:name.length+100<=Vz:=by size_fits) :
  Meets (Builtin.«object.__getattribute__» ⟨[.ref a,.str name u],[]⟩) (fun A R s=>s.heap.get? a=some { cls:=.type "zip",dict:=none,data:=.fields xs,slots:=sl }/\raisesAttr (.ref a) name A R s) :=
 Meets.of_wp fun prog w A R s hs=>by
  obtain⟨hp,g,d,tk,os⟩:=s;obtain⟨hx,hs⟩:=hs;have hT:(⟨hp,g,d,tk,os⟩:Vc).TypeIs (.ref a) "zip":=⟨_,hx,rfl⟩
  unfold Builtin.«object.__getattribute__»
  repeat (any_goals (first|assumption|wp_step))
  simp only [hname,Vi,if_false]
  repeat (any_goals (first|assumption|wp_step))
  exact wpAny_raiseAttrError hs.1 hs.2 (attrMsg_fits (by decide +kernel) hsz)
end L2
namespace L2
open PySem PySem.Spec PyProof.Rows
theorem xE {prog:Wh} {w:Xg} {A:VZ} {E:U8->Vc->Prop} {s:Vc} {a:VJ} {xs:Array U8} {sl:Array (Option U8)} {Q:Option U8->Vc->Prop}
  (hx:s.heap.get? a=some { cls:=.type "zip",dict:=none,data:=.fields xs,slots:=sl }) (hA:A.handled=none)
  (h:∀h' tk e,aaT s.heap h' e "AttributeError"->Q none { s with heap:=h',toks:=tk }) :
  Vq (model prog w) A (getAttr? (.ref a) "keys") Q E s:=by
 obtain⟨hp,g,d,tk,os⟩:=s;have hT:∀tk',(⟨hp,g,d,tk',os⟩:Vc).TypeIs (.ref a) "zip":=fun _=>⟨_,hx,rfl⟩
 have f1:=sub_AttributeError;have f3:=XH.lookup
 have f4:=XH.bind (.ref a);have f5:=zip_getattr_none
 have hmiss:=noKeysZ;unfold getAttr? getAttrBy? getAttrBy
 repeat (any_goals (first|assumption|exact hT _|((with_reducible show Vq _ _ (call (Y7 "zip.__getattribute__") _ _) _ _ _);refine call_meets XH (hT _) entry_zip_getattribute (PySem.F.args_zip_getattribute_2 _ _) (meets_miss_zip a xs sl "keys" _ hmiss (by decide +kernel) (by decide)) ⟨hx,hA,fun h' tk' e hx'=>?_⟩)|wp_step))
 obtain⟨t',u',he⟩:=hx'.there;show Vq _ _ (getattributeRaised _ _ _ _ _ _ _) _ _ _
 unfold getattributeRaised
 repeat (any_goals (first|assumption|wp_step))
 exact h _ _ _ hx'.of
abbrev IsZipF (h:Heap) (z TI TO:VJ) (f0:U8) (f1:Bool):Prop :=
 h.get? z=some { cls:=.type "zip",dict:=none,data:=.fields #[f0,.bool f1,.bool false,.ref TI,.ref TO],slots:=#[] }
noncomputable def CW (h:Heap) (b:Bool) (i l:VJ) (k:Nat):Prop:=match b with|true=>h.IsTupleIter i l k|false=>h.IsListIter i l k
noncomputable def CX (h:Heap) (b:Bool) (l:VJ) (xs:Array U8):Prop:=match b with|true=>h.IsTuple l xs|false=>h.IsList l xs
theorem CW.at {h h':Heap} {b:Bool} {i l:VJ} {k:Nat} (x:CW h b i l k) (e:∀o,h.get? i=some o->h'.get? i=some o):CW h' b i l k:=by
 cases b with
 | false=>obtain⟨o,ho,r⟩:=x;exact⟨o,e _ ho,r⟩
 | true=>obtain⟨o,ho,r⟩:=x;exact⟨o,e _ ho,r⟩
theorem CX.at {h h':Heap} {b:Bool} {l:VJ} {xs:Array U8} (x:CX h b l xs) (e:∀o,h.get? l=some o->h'.get? l=some o):CX h' b l xs:=by
 cases b with
 | false=>obtain⟨o,ho,r⟩:=x;exact⟨o,e _ ho,r⟩
 | true=>obtain⟨o,ho,r⟩:=x;exact⟨o,e _ ho,r⟩
theorem CW.there {h:Heap} {b:Bool} {i l:VJ} {k:Nat} (x:CW h b i l k):∃o,h.get? i=some o:=by
 cases b with
 | false=>obtain⟨o,ho,r⟩:=x;exact⟨o,ho⟩
 | true=>obtain⟨o,ho,r⟩:=x;exact⟨o,ho⟩
section
variable {prog:Wh} {w:Xg} {A:VZ} {E:U8->Vc->Prop} {s:Vc}
theorem qv {it t:VJ} {i:Nat} {items:Array U8} {x:U8} {Q:U8->Vc->Prop} (hit:s.heap.IsTupleIter it t i)
  (ht:s.heap.IsTuple t items) (hx:items[i]?=some x)
  (hQ:∀h',h'.IsTupleIter it t (i+1)->WL it s.heap h'->Q x { s with heap:=h' }) :
  Vq (model prog w) A (V0 (.ref it)) Q E s:=by
 obtain⟨o,ho,hc,hd⟩:=id hit;obtain⟨ol,qo,_,nl,NJ⟩:=ht;unfold V0;refine U0 (wpAny_callSpecial?_slot (name:=WC "__next__") hit.typeIs YG
  (wpAny_call_entry YG hit.typeIs PySem.F.entry_tuple_iterator_next ?_ (PySem.F.args_tuple_iterator_next_1 _)))
 show Vq _ _ (field (.ref it) 0 >>= _) _ _ s;refine U0 (wpAny_field ho hd (x:=.ref t) rfl ?_);show Vq _ _ (if (W5 t == Wr)=true then _ else _) _ _ s
 rw [if_neg (show ¬ ((W5 t == Wr)=true) from Xm)];show Vq _ _ (field (.ref it) 1 >>= _) _ _ s
 refine U0 (wpAny_field ho hd (x:=.int i 0) rfl ?_);show Vq _ _ (seqItems? (.ref t) >>= _) _ _ s
 refine U0 (wpAny_seqItems qo NJ ?_);simp only [Xz,hx];refine U0 (wpAny_setField ho hd (by simp) (U2 ⟨x,rfl,U2 (hQ _ ?_ (Wu ..))⟩));exact⟨_,Wt _ ho (YX (Xn hd _)),(ZS ..).trans hc,by
  rw [Xn hd];simp [rawInt]⟩
theorem r7 {b:Bool} {it t:VJ} {i:Nat} {items:Array U8} {x:U8} {Q:U8->Vc->Prop} (hit:CW s.heap b it t i)
  (ht:CX s.heap b t items) (hx:items[i]?=some x)
  (hQ:∀h',CW h' b it t (i+1)->WL it s.heap h'->Q x { s with heap:=h' }) :
  Vq (model prog w) A (V0 (.ref it)) Q E s:=by
 cases b with
 | false=>exact wpAny_nextOf_list_item hit ht hx hQ
 | true=>exact qv hit ht hx hQ
structure ZD (z TI TO i1 i2 l1 l2 a:VJ):Prop where
 TIz:TI≠z
 TOz:TO≠z
 i1z:i1≠z
 i2z:i2≠z
 TITO:TI≠TO
 TIi1:TI≠i1
 TIi2:TI≠i2
 TOi1:TO≠i1
 TOi2:TO≠i2
 i12:i1≠i2
 l1z:l1≠z
 l1TO:l1≠TO
 l1i1:l1≠i1
 l1i2:l1≠i2
 l2z:l2≠z
 l2TO:l2≠TO
 l2i1:l2≠i1
 l2i2:l2≠i2
 za:z≠a
 Sj:TI≠a
 Sl:TO≠a
 Sm:i1≠a
 Sn:i2≠a
structure zQ (h:Heap) (b:Bool) (z TI TO i1 i2 l1 l2 a:VJ) (k:Nat):Prop where
 z:∃f0 f1,IsZipF h z TI TO f0 f1/\(f0=.none\/∃T o,f0=rawInt ((T:Nat):Int)/\h.get? T=some o/\T≠z/\T≠TO/\T≠i1/\T≠i2/\T≠a)
 ti:IsPair h TI (.ref i1) (.ref i2)
 to:∃x y,IsPair h TO x y
 j1:h.IsListIter i1 l1 k
 j2:CW h b i2 l2 k
theorem zQ.ext {h h':Heap} {b:Bool} {z TI TO i1 i2 l1 l2 a:VJ} {k:Nat} (D:ZD z TI TO i1 i2 l1 l2 a) (x:zQ h b z TI TO i1 i2 l1 l2 a k) (e:∀c o,c≠a->h.get? c=some o->h'.get? c=some o):zQ h' b z TI TO i1 i2 l1 l2 a k:=by
 obtain⟨⟨f0,f1,hz,hf⟩,So,⟨u,v,Sp⟩,h1,h2⟩:=x;refine⟨⟨f0,f1,e _ _ D.za hz,?_⟩,e _ _ D.Sj So,⟨u,v,e _ _ D.Sl Sp⟩,h1.at fun o q=>e _ o D.Sm q,h2.at fun o q=>e _ o D.Sn q⟩;rcases hf with hf|⟨T,o,e0,ho,n1,n2,n3,n4,n5⟩
 ·exact .inl hf
 ·exact .inr ⟨T,o,e0,e _ _ n5 ho,n1,n2,n3,n4,n5⟩
theorem r9 {z TI TO T0:VJ} {f1:Bool} {o0:Obj} {C:Bool->Vc->Prop} (hz:IsZipF s.heap z TI TO (rawInt ((T0:Nat):Int)) f1) (ho:s.heap.get? T0=some o0)
  (h:∀h₁,IsZipF h₁ z TI TO (rawInt ((T0:Nat):Int)) true->WL z s.heap h₁->C false { s with heap:=h₁ }):Vq (model prog w) A (V1 (.ref z)) C E s:=by
 unfold V1;refine U0 (wpAny_field hz rfl (x:=rawInt ((T0:Nat):Int)) rfl ?_);show Vq _ _ (loadIfAlive (((T0:Nat):Int).toNat) >>= _) _ _ _
 rw [Xz];refine U0 (Q:=_) ?_;have al:∀{Q:Option Obj->Vc->Prop},Q (some o0) s->Vq (model prog w) A (loadIfAlive T0) Q E s:=fun {Q} q=>by
  have q':Q (s.heap.get? T0) s:=ho ▸ q;exact fun _ _ _=>q'
 refine al ?_;rw [if_neg (by simp)];refine U0 (wpAny_field hz rfl (x:=.bool f1) rfl ?_);cases f1 with
 | true =>
  rw [if_neg (by decide)];exact U2 (h s.heap hz ⟨rfl,fun _ _=>rfl⟩)
 | false =>
  rw [if_pos (by decide)];refine U0 (wpAny_setField_rec hz (by simp) fun h₁ yd pq=>U2 (h h₁ yd pq))
theorem zR {b:Bool} {z TI TO i1 i2 l1 l2 a:VJ} {k:Nat} {xs ys:Array U8} {x y:U8} {Q:U8->Vc->Prop} (D:ZD z TI TO i1 i2 l1 l2 a) (ha:a<s.heap.objs.size)
  (Z:zQ s.heap b z TI TO i1 i2 l1 l2 a k) (qw:s.heap.IsList l1 xs) (kY:CX s.heap b l2 ys) (hx:xs[k]?=some x) (hy:ys[k]?=some y)
  (hQ:∀h' T,zQ h' b z TI TO i1 i2 l1 l2 a (k+1)->IsPair h' T x y->s.heap.objs.size<=T ->
   (∀c o,c≠z->c≠TO->c≠i1->c≠i2->s.heap.get? c=some o->h'.get? c=some o)->Q (.ref T) { s with heap:=h' }) :
  Vq (model prog w) A (Builtin.«zip.__next__» ⟨[.ref z],[]⟩) (fun fin s'=>∃v,fin=.done (.ret v)/\Q v s') E s:=by
 obtain⟨⟨f0,f1,hz,hf⟩,JZ,⟨u,v,NK⟩,h1,h2⟩:=Z;show Vq _ _ (field (.ref z) 2 >>= _) _ _ _
 refine U0 (wpAny_field hz rfl (x:=.bool false) rfl ?_);show Vq _ _ (field (.ref z) 3 >>= _) _ _ _
 refine U0 (wpAny_field hz rfl (x:=.ref TI) rfl ?_);refine U0 (wpAny_seqItems JZ rfl ?_);show Vq _ _ (V1 (.ref z) >>= _) _ _ _
 rcases hf with rfl|⟨T0,o0,rfl,MJ,n1,n2,n3,n4,n5⟩
 ·refine U0 ?_
  unfold V1;refine U0 (wpAny_field hz rfl (x:=.none) rfl (U2 ?_));simp only [if_true];refine U0 (wpAny_rule ?_);refine U0 (wpAny_field hz rfl (x:=.ref TO) rfl ?_);refine U0 (wpAny_setField_rec hz (by simp) fun h₁ yd pq=>?_)
  replace yd:IsZipF h₁ z TI TO .ellipsis f1:=yd
  refine U0 ?_;simp only [List.zipIdx_cons,List.zipIdx_nil,XW,ZE];refine U0 (U0 (wpAny_onRaise ?_));show Vq _ _ (V0 (.ref i1) >>= _) _ _ _
  refine U0 (wpAny_nextOf_list_item (h1.extBut pq.extBut D.i1z) (qw.extBut pq.extBut D.l1z) hx fun h₂ NL xF=>U2 ?_);have Ka:IsPair h₂ TO u v:=xF.extBut _ _ D.TOi1 (pq.extBut _ _ D.TOz NK)
  refine U0 (wpAny_seqItems Ka rfl ?_);refine U0 (wpAny_updateSeq_pair Ka fun h₃ GO ye=>?_)
  replace GO:IsPair h₃ TO x v:=GO
  refine U0 (wpAny_letGo (U2 ?_));refine U0 (U0 (wpAny_onRaise ?_));show Vq _ _ (V0 (.ref i2) >>= _) _ _ _
  have Eu:∀c o,c≠z->c≠i1->c≠TO->s.heap.get? c=some o->h₃.get? c=some o:=fun c o c1 c2 c3 e=>ye.extBut _ _ c3 (xF.extBut _ _ c2 (pq.extBut _ _ c1 e))
  refine U0 (r7 (h2.at fun o e=>Eu _ o D.i2z D.i12.symm D.TOi2.symm e) (kY.at fun o e=>Eu _ o D.l2z D.l2i1 D.l2TO e) hy fun h₄ Sr Kb=>U2 ?_);have Kc:IsPair h₄ TO x v:=Kb.extBut _ _ D.TOi2 GO
  refine U0 (wpAny_seqItems Kc rfl ?_);refine U0 (wpAny_updateSeq_pair Kc fun h₅ zS Ke=>?_)
  replace zS:IsPair h₅ TO x y:=zS
  refine U0 (wpAny_letGo (U2 (U2 ?_)));refine U0 (wpAny_seqItems zS rfl ?_);refine U0 (wpAny_newTuple ?_);have hsz:h₅.objs.size=s.heap.objs.size:=by rw [Ke.1,Kb.1,ye.1,xF.1,pq.1]
  have Qk:IsZipF h₅ z TI TO .ellipsis f1:=Ke.extBut _ _ D.TOz.symm (Kb.extBut _ _ D.i2z.symm (ye.extBut _ _ D.TOz.symm (xF.extBut _ _ D.i1z.symm yd)));have Ql:∀c o,c≠z->c≠TO->c≠i1->c≠i2->s.heap.get? c=some o->h₅.get? c=some o:=fun c o c1 c2 c3 c4 e =>
   Ke.extBut _ _ c2 (Kb.extBut _ _ c4 (Eu _ _ c1 c3 c2 e))
  have Qm:h₅.IsListIter i1 l1 (k+1):=((NL.extBut ye.extBut D.TOi1.symm).extBut Kb.extBut D.i12).extBut Ke.extBut D.TOi1.symm;have Qn:CW h₅ b i2 l2 (k+1):=Sr.at fun o e=>Ke.extBut _ _ D.TOi2.symm e
  have GP:z<h₅.objs.size:=Vu Qk;have Kf:TO<h₅.objs.size:=Vu zS
  have Kg:i1<h₅.objs.size:=by obtain⟨_,e,_⟩:=Qm;exact Vu e
  have Kh:i2<h₅.objs.size:=by obtain⟨_,e⟩:=Qn.there;exact Vu e
  show Vq _ _ (Yl (.ref z) (.ref h₅.objs.size) >>= _) _ _ _;refine U0 ?_;unfold Yl;have Ss:IsZipF (h₅.push { cls:=.type "tuple",data:=.seq #[x,y] }) z TI TO .ellipsis f1:=U1 _ Qk
  refine U0 (wpAny_setField_rec Ss (by simp) fun h₇ NM Qo=>?_)
  replace NM:IsZipF h₇ z TI TO (rawInt h₅.objs.size) f1:=NM
  refine wpAny_setField_rec NM (by simp) fun h₈ NN Qp=>?_
  replace NN:IsZipF h₈ z TI TO (rawInt h₅.objs.size) false:=NN
  have up:∀c o,c≠z->h₅.get? c=some o->h₈.get? c=some o:=fun c o c1 e=>Qp.extBut _ _ c1 (Qo.extBut _ _ c1 (U1 _ e))
  have Qq:IsPair h₈ h₅.objs.size x y:=Qp.extBut _ _ (We GP) (Qo.extBut _ _ (We GP) (U9 _ rfl));refine U2 ⟨_,rfl,?_⟩;show Q (.ref h₅.objs.size) _
  refine hQ h₈ h₅.objs.size ⟨⟨_,_,NN,.inr ⟨h₅.objs.size,_,rfl,Qq,We GP,We Kf,We Kg,We Kh,We (by rw [hsz];exact ha)⟩⟩,up _ _ D.TIz (Ql _ _ D.TIz D.TITO D.TIi1 D.TIi2 JZ),⟨x,y,up _ _ D.TOz zS⟩,Qm.at fun o e=>up _ o D.i1z e,Qn.at fun o e=>up _ o D.i2z e⟩ Qq (Yt hsz.symm) fun c o c1 c2 c3 c4 e=>up c o c1 (Ql c o c1 c2 c3 c4 e)
 ·refine U0 (r9 hz MJ fun h₁ yd pq=>?_)
  simp only [Vi,if_false,List.forIn_toArray,XW,ZE];refine U0 ?_;refine U0 (U0 (wpAny_holding ?_));show Vq _ _ (V0 (.ref i1) >>= _) _ _ _
  refine U0 (wpAny_nextOf_list_item (h1.extBut pq.extBut D.i1z) (qw.extBut pq.extBut D.l1z) hx fun h₂ NL xF=>U2 ?_);refine U2 ?_;refine U0 (U0 (wpAny_holding ?_));show Vq _ _ (V0 (.ref i2) >>= _) _ _ _
  have NO:∀c o,c≠z->c≠i1->s.heap.get? c=some o->h₂.get? c=some o:=fun c o c1 c2 e=>xF.extBut _ _ c2 (pq.extBut _ _ c1 e)
  refine U0 (r7 (h2.at fun o e=>NO _ o D.i2z D.i12.symm e) (kY.at fun o e=>NO _ o D.l2z D.l2i1 e) hy fun h₃ Su ye=>U2 ?_);refine U2 (U2 ?_);show Vq _ _ (newTuple [x,y] >>= _) _ _ _
  refine U0 (wpAny_newTuple (U2 ⟨_,rfl,?_⟩));have hsz:h₃.objs.size=s.heap.objs.size:=by rw [ye.1,xF.1,pq.1]
  have Eu:∀c o,c≠z->c≠i1->c≠i2->s.heap.get? c=some o->h₃.get? c=some o:=fun c o c1 c2 c3 e=>ye.extBut _ _ c3 (NO _ _ c1 c2 e)
  have Sv:IsZipF h₃ z TI TO (rawInt ((T0:Nat):Int)) true:=ye.extBut _ _ D.i2z.symm (xF.extBut _ _ D.i1z.symm yd);have Sw:h₃.IsListIter i1 l1 (k+1):=NL.extBut ye.extBut D.i12
  have GQ:∀c o,h₃.get? c=some o->(h₃.push { cls:=.type "tuple",data:=.seq #[x,y] }).get? c=some o:=fun c o e=>U1 _ e
  refine hQ (h₃.push { cls:=.type "tuple",data:=.seq #[x,y] }) h₃.objs.size ⟨⟨_,_,GQ _ _ Sv,.inr ⟨T0,o0,rfl,GQ _ _ (Eu _ _ n1 n3 n4 MJ),n1,n2,n3,n4,n5⟩⟩,GQ _ _ (Eu _ _ D.TIz D.TIi1 D.TIi2 JZ),⟨u,v,GQ _ _ (Eu _ _ D.TOz D.TOi1 D.TOi2 NK)⟩,Sw.at fun o e=>GQ _ o e,Su.at fun o e=>GQ _ o e⟩ (U9 _ rfl) (Yt hsz.symm) fun c o c1 _ c3 c4 e=>GQ _ _ (Eu c o c1 c3 c4 e)
theorem CY {b:Bool} {z TI TO i1 i2 l1 l2 a:VJ} {k:Nat} {xs:Array U8} {Q:Fin->Vc->Prop} (hh:A.handled=none) (D:ZD z TI TO i1 i2 l1 l2 a)
  (Z:zQ s.heap b z TI TO i1 i2 l1 l2 a k) (qw:s.heap.IsList l1 xs) (hx:xs[k]?=none)
  (hE:∀h' e,(∀c o,c≠z->c≠TO->c≠i1->c≠i2->s.heap.get? c=some o->h'.get? c=some o)->(∃o,h'.get? e=some o/\o.cls=.type "StopIteration")->E (.ref e) { s with heap:=h' }) :
  Vq (model prog w) A (Builtin.«zip.__next__» ⟨[.ref z],[]⟩) Q E s:=by
 obtain⟨⟨f0,f1,hz,hf⟩,JZ,⟨u,v,NK⟩,h1,h2⟩:=Z;show Vq _ _ (field (.ref z) 2 >>= _) _ _ _
 refine U0 (wpAny_field hz rfl (x:=.bool false) rfl ?_);show Vq _ _ (field (.ref z) 3 >>= _) _ _ _
 refine U0 (wpAny_field hz rfl (x:=.ref TI) rfl ?_);refine U0 (wpAny_seqItems JZ rfl ?_);show Vq _ _ (V1 (.ref z) >>= _) _ _ _
 rcases hf with rfl|⟨T0,o0,rfl,MJ,n1,n2,n3,n4,n5⟩
 ·refine U0 ?_
  unfold V1;refine U0 (wpAny_field hz rfl (x:=.none) rfl (U2 ?_));simp only [if_true];refine U0 (wpAny_rule ?_);refine U0 (wpAny_field hz rfl (x:=.ref TO) rfl ?_);refine U0 (wpAny_setField_rec hz (by simp) fun h₁ yd pq=>?_)
  replace yd:IsZipF h₁ z TI TO .ellipsis f1:=yd
  refine U0 ?_;simp only [List.zipIdx_cons,List.zipIdx_nil,XW,ZE];refine U0 (U0 (wpAny_onRaise ?_));show Vq _ _ (V0 (.ref i1) >>= _) _ _ _
  refine U0 (wpAny_nextOf_list_end hh (h1.extBut pq.extBut D.i1z) (qw.extBut pq.extBut D.l1z) hx fun h₂ e xF he=>?_);obtain⟨oe,NP,Qr⟩:=he;have Qs:IsZipF h₂ z TI TO .ellipsis f1:=xF _ _ D.i1z.symm yd
  have Sx:e≠z:=fun x=>by subst x;rw [Qs] at NP;cases NP;simp at Qr
  refine wpAny_setField_rec Qs (by simp) fun h₃ _ ye=>hE h₃ e (fun c o c1 _ c3 _ x=>ye.extBut _ _ c1 (xF _ _ c3 (pq.extBut _ _ c1 x))) ⟨oe,ye.extBut _ _ Sx NP,Qr⟩
 ·refine U0 (r9 hz MJ fun h₁ yd pq=>?_)
  simp only [Vi,if_false,List.forIn_toArray,XW,ZE];refine U0 ?_;refine U0 (U0 (wpAny_holding ?_));show Vq _ _ (V0 (.ref i1) >>= _) _ _ _
  refine U0 (wpAny_nextOf_list_end hh (h1.extBut pq.extBut D.i1z) (qw.extBut pq.extBut D.l1z) hx fun h₂ e xF he=>?_);exact hE h₂ e (fun c o c1 _ c3 _ x=>xF _ _ c3 (pq.extBut _ _ c1 x)) he
theorem oK {b:Bool} {z TI TO i1 i2 l1 l2 a:VJ} {k:Nat} {xs ys:Array U8} {x y:U8} {Q:Option U8->Vc->Prop} (D:ZD z TI TO i1 i2 l1 l2 a) (ha:a<s.heap.objs.size)
  (Z:zQ s.heap b z TI TO i1 i2 l1 l2 a k) (qw:s.heap.IsList l1 xs) (kY:CX s.heap b l2 ys) (hx:xs[k]?=some x) (hy:ys[k]?=some y)
  (hQ:∀h' T,zQ h' b z TI TO i1 i2 l1 l2 a (k+1)->IsPair h' T x y->s.heap.objs.size<=T ->
   (∀c o,c≠z->c≠TO->c≠i1->c≠i2->s.heap.get? c=some o->h'.get? c=some o)->Q (some (.ref T)) { s with heap:=h' }) :
  Vq (model prog w) A (pyNext (.ref z)) Q E s:=by
 obtain⟨f0,f1,hz,_⟩:=Z.z;have hT:s.TypeIs (.ref z) "zip":=⟨_,hz,rfl⟩
 unfold pyNext;exact U0 (wpAny_attempt (wpAny_callSpecial?_slot (name:=WC "__next__") hT XZ
  (wpAny_call_entry XZ hT aao (zR D ha Z qw kY hx hy fun h' T a1 a2 a3 a4=>U2 (hQ h' T a1 a2 a3 a4)) (Z5 _))))
theorem qx {b:Bool} {z TI TO i1 i2 l1 l2 a:VJ} {k:Nat} {xs:Array U8} {Q:Option U8->Vc->Prop} (hh:A.handled=none) (D:ZD z TI TO i1 i2 l1 l2 a)
  (Z:zQ s.heap b z TI TO i1 i2 l1 l2 a k) (qw:s.heap.IsList l1 xs) (hx:xs[k]?=none)
  (hQ:∀h',(∀c o,c≠z->c≠TO->c≠i1->c≠i2->s.heap.get? c=some o->h'.get? c=some o)->Q none { s with heap:=h' }):Vq (model prog w) A (pyNext (.ref z)) Q E s:=by
 obtain⟨f0,f1,hz,_⟩:=Z.z;have hT:s.TypeIs (.ref z) "zip":=⟨_,hz,rfl⟩
 unfold pyNext;refine U0 (wpAny_attempt (wpAny_callSpecial?_slot (name:=WC "__next__") hT XZ
  (wpAny_call_entry XZ hT aao (CY hh D Z qw hx fun h' e hk he=>?_) (Z5 _))))
 obtain⟨o,ho,hc⟩:=he;refine U0 (wpAny_isInstance (T:="StopIteration") (b:=true) ⟨o,ho,hc⟩ isSubtype_stop ?_);exact U2 (hQ _ hk)
end
abbrev MK (h:Heap) (l1 l2:VJ):Heap:=(zipH1 h l1).push { cls:=.type "tuple_iterator",data:=.fields #[.ref l2,.int 0 0] }
abbrev ML (h:Heap) (l1 l2:VJ):Heap:=(MK h l1 l2).push { cls:=.type "tuple",data:=.seq #[.ref h.objs.size,.ref (zipH1 h l1).objs.size] }
abbrev MM (h:Heap) (l1 l2:VJ):Heap:=(ML h l1 l2).push { cls:=.type "tuple",data:=.seq #[.none,.none] }
abbrev GR (h:Heap) (l1 l2:VJ):Heap:=(MM h l1 l2).push { cls:=.type "zip",data:=.fields #[.none,.bool false,.bool false,.ref (MK h l1 l2).objs.size,.ref (ML h l1 l2).objs.size] }
theorem uL (l1 l2:VJ) (xs ys:Array U8) :
  Meets (Builtin.«zip.__new__» ⟨[.type "zip",.ref l1,.ref l2],[]⟩) (fun _ R s=>s.heap.IsList l1 xs/\s.heap.IsTuple l2 ys /\
   R (.ok (.ret (.ref (MM s.heap l1 l2).objs.size))) { s with heap:=GR s.heap l1 l2 }) :=
 .of_wp fun prog w A R s h=>by
  obtain⟨hp,g,d,tk,os⟩:=s;obtain⟨qw,kY,h⟩:=h;have CZ:=sub_zip
  have Ki:Heap.IsList (Shared.heap ⟨hp,g,d,tk,os⟩) l1 xs:=qw;have IZ:Heap.IsTuple (Shared.heap ⟨hp.push { cls:=.type "list_iterator",data:=.fields #[.ref l1,.int 0 0] },g,d,tk,os⟩) l2 ys:=Heap.IsTuple.push kY _
  wp_walk using wpAny_pyIter_list Ki,wpAny_pyIter_tuple IZ
  exact⟨_,rfl,h⟩
section
variable {prog:Wh} {w:Xg} {A:VZ} {E:U8->Vc->Prop} {s:Vc}
theorem xG {l1 l2:VJ} {xs ys:Array U8} {Q:U8->Vc->Prop} (qw:s.heap.IsList l1 xs) (kY:s.heap.IsTuple l2 ys)
  (h:∀h',IsZip h' (s.heap.objs.size+4) (s.heap.objs.size+2) (s.heap.objs.size+3) .none->IsPair h' (s.heap.objs.size+2) (.ref s.heap.objs.size) (.ref (s.heap.objs.size+1)) ->
   IsPair h' (s.heap.objs.size+3) .none .none->h'.IsListIter s.heap.objs.size l1 0->h'.IsTupleIter (s.heap.objs.size+1) l2 0->h'.objs.size=s.heap.objs.size+5 ->
   (∀c o,s.heap.get? c=some o->h'.get? c=some o)->Q (.ref (s.heap.objs.size+4)) { s with heap:=h' }) :
  Vq (model prog w) A (call (.type "zip") [.ref l1,.ref l2]) Q E s:=by
 refine callType_new PySem.F.called_zip (by decide) (PySem.F.typeCall_zip_2 _ _) (PySem.F.newCall_zip_2 _ _) (fun obj=>PySem.F.args_object_init_3 obj _ _) PySem.F.entry_zip_new
  (uL l1 l2 xs ys) ⟨qw,kY,?_⟩
 have z1:(zipH1 s.heap l1).objs.size=s.heap.objs.size+1:=Wi ..;have z2:(MK s.heap l1 l2).objs.size=s.heap.objs.size+2:=by rw [Wi,z1]
 have z3:(ML s.heap l1 l2).objs.size=s.heap.objs.size+3:=by rw [Wi,z2]
 have z4:(MM s.heap l1 l2).objs.size=s.heap.objs.size+4:=by rw [Wi,z3]
 have z5:(GR s.heap l1 l2).objs.size=s.heap.objs.size+5:=by rw [Wi,z4]
 have g5:(GR s.heap l1 l2).get? (MM s.heap l1 l2).objs.size=some _:=U9 _ rfl;have g4:(GR s.heap l1 l2).get? (ML s.heap l1 l2).objs.size=some _:=U1 _ (U9 _ rfl)
 have g3:(GR s.heap l1 l2).get? (MK s.heap l1 l2).objs.size=some _:=U1 _ (U1 _ (U9 _ rfl));have g2:(GR s.heap l1 l2).get? (zipH1 s.heap l1).objs.size=some _:=U1 _ (U1 _ (U1 _ (U9 _ rfl)))
 have g1:(GR s.heap l1 l2).get? s.heap.objs.size=some _:=U1 _ (U1 _ (U1 _ (U1 _ (U9 _ rfl))));show _/\_
 rw [z2,z3,z4] at g5;rw [z1,z2] at g3;rw [z3] at g4;rw [z1] at g2;rw [z4];exact⟨⟨_,g5,rfl⟩,h _ g5 g3 g4 ⟨_,g1,rfl,rfl⟩ ⟨_,g2,rfl,rfl⟩ z5 fun c o x =>
  U1 _ (U1 _ (U1 _ (U1 _ (U1 _ x))))⟩
theorem uM {b:Bool} {l1 l2:VJ} {xs ys:Array U8} {Q:U8->Vc->Prop} (qw:s.heap.IsList l1 xs) (kY:CX s.heap b l2 ys)
  (h:∀h',IsZip h' (s.heap.objs.size+4) (s.heap.objs.size+2) (s.heap.objs.size+3) .none->(∀a,zQ h' b (s.heap.objs.size+4) (s.heap.objs.size+2) (s.heap.objs.size+3) s.heap.objs.size (s.heap.objs.size+1) l1 l2 a 0)->h'.objs.size=s.heap.objs.size+5 ->
   (∀c o,s.heap.get? c=some o->h'.get? c=some o)->Q (.ref (s.heap.objs.size+4)) { s with heap:=h' }) :
  Vq (model prog w) A (call (.type "zip") [.ref l1,.ref l2]) Q E s:=by
 cases b with
 | false=>exact call_zip_2 qw kY fun h' a1 a2 a3 a4 a5 a6 a7=>h h' a1 (fun _=>⟨⟨_,_,a1,.inl rfl⟩,a2,⟨_,_,a3⟩,a4,a5⟩) a6 a7
 | true=>exact xG qw kY fun h' a1 a2 a3 a4 a5 a6 a7=>h h' a1 (fun _=>⟨⟨_,_,a1,.inl rfl⟩,a2,⟨_,_,a3⟩,a4,a5⟩) a6 a7
end
end L2
namespace M
open PySem PySem.Spec PyProof.Rows L2
section
variable {X:Cx} {pins:bf} {φ:Fr} {g g0:G} {L L':aa} {s:Vc} {xs ys:List T} {Kj Kk:List U8} {a z TI TO i1 i2 l1 l2:VJ} {UJ UK:Obj} {A:VZ} {R:Result->Vc->Prop} {b:Bool}
theorem Sy (N l h:Nat) (e:h=N+5) (hl:l<N):l<h:=by omega
theorem Qt (N l h:Nat) (e:h=N+5) (hl:l<N):l≠h:=by omega
theorem Qu (N c h:Nat) (e:h=N+5) (hc:c=N+4\/c=N+3\/c=N\/c=N+1):N<=c/\c≠h:=by omega
theorem zT (N l1 l2:Nat) (h1:l1<N) (h2:l2<N):ZD (N+4) (N+2) (N+3) N (N+1) l1 l2 (N+5):=by
 constructor <;> (refine xq ?_;omega)
theorem se:∀(a b:List T),prsOf (zp a b)=some (a.zip b)
 | [],_=>rfl
 | _::_,[]=>rfl
 | x::a,y::b=>by
  show prsOf (.tup [x,y]::zp a b)=_;unfold prsOf;rw [se a b];rfl
theorem sf {w:T} (hu:X.A.units+20<cLine) (I:Inv X pins φ g L s) (Ki:s.heap.IsList l1 Kj.toArray) (IZ:CX s.heap b l2 Kk.toArray) (r1:cG g xs Kj) (r2:cG g ys Kk) (hle:xs.length<=ys.length) (h:yq (zp xs ys) L=.ok w L') :
  Vq (model X.prog X.w) X.A (call (.type "zip") [.ref l1,.ref l2]) (fun u s'=>Vq (model X.prog X.w) X.A (call (.type "dict") [u]) (EP X pins φ g w L') F0 s') F0 s:=by
 have iA:X.A.in1.in1.units+8<cLine:=by show X.A.units+1+1+8<cLine;omega
 unfold yq at h;rw [se] at h;obtain⟨⟨hm,hlen⟩,h⟩:=aC h;cases h;have ha:l1<s.heap.objs.size:=by
  obtain⟨_,e,_⟩:=Ki;exact Vu e
 have hb:l2<s.heap.objs.size:=by
  cases b with
  | false=>obtain⟨_,e,_⟩:=IZ;exact Vu e
  | true=>obtain⟨_,e,_⟩:=IZ;exact Vu e
 refine uM Ki IZ fun h1 PZ hZ qy ug=>?_
 have I1:Inv X pins φ g L { s with heap:=h1 }:=I.kept (t':=s.toks) ug;have yH:g.H h1.objs.size=none:=I1.hok.fresh (Vm _)
 have big:(h1.objs.size == sysModules)=false:=by
  have h1':sysModules<s.heap.objs.size:=Xa (by decide) (I.mod.glob.keeps I.bk).lt;simpa using We (Sy _ _ _ qy h1')
 have J0:=I1.new (c:=.aU []) (o:={ cls:=.type "dict",data:=.dict #[] }) (h':=h1.push { cls:=.type "dict",data:=.dict #[] }) (t':=s.toks) (fun b u e=>U1 _ e) (Vm _) (U9 _ rfl)
  (.aU (.inr rfl) (.inl ar) ⟨rfl,rfl,rfl⟩ rfl (VK _) rfl ⟨Xt,rfl⟩ big (fun i x e e1 _=>by simp at e1) (fun i x e e1 _=>by simp at e1) fun i x e e1 _=>by simp at e1)
 have l0:=Le.new (o:={ cls:=.type "dict",data:=.dict #[] }) yH;have rd:RT (g.new h1.objs.size { cls:=.type "dict",data:=.dict #[] }) none (.ref L.length) (.ref h1.objs.size):=by
  have:=I.rel.len;exact .ref (p:=(h1.objs.size,h1.objs.size)) (by show at_ ((_,_)::g.α) _=_;rw [<- this];exact fk)
 refine callType_codes (Q₁:=fun obj s₁=>obj=.ref h1.objs.size/\s₁={ s with heap:=h1.push { cls:=.type "dict",data:=.dict #[] } }) aan (Zi _) Z3 (kt_code_dict_new _ ⟨rfl,rfl⟩) ?_;rintro obj s₁ ⟨rfl,rfl⟩;have uE:Y9 { s with heap:=h1.push { cls:=.type "dict",data:=.dict #[] } } (.ref h1.objs.size) "dict":=⟨_,U9 _ rfl,rfl⟩
 refine⟨uE,ZQ _ _,?_⟩;unfold Builtin.«dict.__init__»;refine U0 ?_;unfold ZR;refine U0 (wpAny_notOrdered_dict uE ?_);show Vq _ _ (pure (h1.objs.size,[W5 (s.heap.objs.size+4)])) _ _ _
 refine U2 ?_;show Vq _ _ (XE "dict.__init__" h1.objs.size (.ref (s.heap.objs.size+4)) [] .none) _ _ _
 unfold XE;have zI:=U1 { cls:=.type "dict",data:=.dict #[] } PZ
 refine U0 (wpAny_typeOf (T:="zip") ⟨_,zI,rfl⟩ ?_);rw [if_pos (by decide)];refine U0 (xE zI I.ok.hd fun h3 Qv e hx=>?_);rw [if_pos (show(none:Option U8).isNone=true from rfl)];refine U0 (wpAny_rule ?_);have Sz:=hx.keeps _ _ zI
 have J1:=J0.kept (t':=Qv) (h':=h3) fun b o e=>hx.keeps b o e
 refine U0 (wpAny_pyIter_zip (s:={ s with heap:=h3,toks:=Qv }) Sz ?_);refine U2 ⟨plainId_quiet plain_dul _,codeAny_builtin entry_dul ?_⟩;rw [Wl plain_dul _];have GN:∀b o,s.heap.get? b=some o->h3.get? b=some o:=fun b o q=>hx.keeps _ _ (U1 _ (ug _ _ q))
 have D:ZD (s.heap.objs.size+4) (s.heap.objs.size+2) (s.heap.objs.size+3) s.heap.objs.size (s.heap.objs.size+1) l1 l2 h1.objs.size:=by
  rw [qy];exact zT _ l1 l2 ha hb
 have qw:=Vr r1;have kY:=Vr r2
 have UL:(xs.zip ys).length=xs.length:=by rw [List.length_zip];omega
 have four:∀{c:VJ},c∉[s.heap.objs.size+4,s.heap.objs.size+3,s.heap.objs.size,s.heap.objs.size+1]->c≠s.heap.objs.size+4/\c≠s.heap.objs.size+3/\c≠s.heap.objs.size/\c≠s.heap.objs.size+1:=fun {c} h=>by simpa using h
 refine uD (A:=X.A.in1) (a:=h1.objs.size) (L:=L) iA [s.heap.objs.size+4,s.heap.objs.size+3,s.heap.objs.size,s.heap.objs.size+1] (fun i h=>h.IsList l1 Kj.toArray/\CX h b l2 Kk.toArray/\zQ h b (s.heap.objs.size+4) (s.heap.objs.size+2) (s.heap.objs.size+3) s.heap.objs.size (s.heap.objs.size+1) l1 l2 h1.objs.size i) hm hlen (fun c hc=>by
   simp only [Vn,WR,or_false] at hc;exact(Qu _ _ _ qy hc).2)
  (fun i h h' ⟨q1,q2,q3⟩ e=>⟨q1.at fun o q=>(e l1 (Qt _ _ _ qy ha)).trans q,q2.at fun o q=>(e l2 (Qt _ _ _ qy hb)).trans q,q3.ext D fun c o hc q=>(e c hc).trans q⟩)
  (fun i s' g' p Q ep lg Nt J ⟨q1,q2,q3⟩ hQ=>?_) (fun s' Q ⟨q1,q2,q3⟩ hQ=>qx (s:=s') (A:=X.A.in1.in1) I.ok.hd D q3 q1 (by simp;omega) fun h2 rC=>hQ h2 fun c o hc e=>let ⟨a1,a2,a3,a4⟩:=four hc;rC c o a1 a2 a3 a4 e) (fun s' g' lg J JR=>?_)
  (xs.zip ys).length 0 _ _ rfl (VK _) (Le.refl _) J1 rd (fun c hc=>?_) ⟨Ki.at fun o q=>GN _ o q,IZ.at fun o q=>GN _ o q,(hZ h1.objs.size).ext D fun c o _ e=>hx.keeps _ _ (U1 _ e)⟩
 ·have hi:=(Vl.mp ep).1
  have hx:i<xs.length:=by omega
  have hy:i<ys.length:=by omega
  have x8:i<Kj.length:=by omega
  have Ej:i<Kk.length:=by omega
  have ez:(xs.zip ys)[i]?=some (xs[i],ys[i]):=by rw [Ge9 hi,List.getElem_zip]
  obtain rfl:=WN (ez.symm.trans ep);have rk:=(xk (r1.le l0) i _ _ (Ge9 hx) (Ge9 x8)).le lg
  have rv:=(xk (r2.le l0) i _ _ (Ge9 hy) (Ge9 Ej)).le lg;refine oK (s:=s') (x:=Kj[i]) (y:=Kk[i]) D Nt q3 q1 q2 (by simp [x8]) (by simp [Ej]) fun h4 t SD hT BP I0=>?_
  exact hQ h4 t _ _ _ _ ⟨q1.at fun o q=>I0 l1 o D.l1z D.l1TO D.l1i1 D.l1i2 q,q2.at fun o q=>I0 l2 o D.l2z D.l2TO D.l2i1 D.l2i2 q,SD⟩ (fun c o hc e=>let ⟨a1,a2,a3,a4⟩:=four hc;I0 c o a1 a2 a3 a4 e) hT rfl rfl rk rv
 ·exact⟨rfl,g',l0.trans lg,J,JR⟩
 ·have BW:s.heap.objs.size<=c/\c≠h1.objs.size:=by
   simp only [Vn,WR,or_false] at hc;exact Qu _ _ _ qy hc
  refine I.uc BW.1 ?_;show upd g.H _ _ c=none
  rw [aA BW.2];exact I.hok.fresh BW.1
end
end M
namespace cg
open PySem
noncomputable def Ri (xs:Array Nat):Prop:=∀i j,i<j->j<xs.size->xs.getD i 0<xs.getD j 0
theorem getD_in (xs:Array Nat) {i:Nat} (h:i<xs.size) (a b:Nat):xs.getD i a=xs.getD i b:=by simp [WU,h]
theorem qz (xs:Array Nat) (hr:Ri xs) (j:Nat):∀(fuel lo hi:Nat),lo<=hi->hi<=xs.size->hi - lo<=fuel->(∀i,i<lo->xs.getD i 0<j)->(∀i,hi<=i->i<xs.size->j<=xs.getD i 0) ->
  (YM xs j fuel lo hi<=xs.size/\(∀i,i<YM xs j fuel lo hi->xs.getD i 0<j)/\∀i,YM xs j fuel lo hi<=i->i<xs.size->j<=xs.getD i 0)
 | 0,lo,hi,h1,h2,h3,h4,h5=>by
  obtain rfl:lo=hi:=by omega
  exact⟨h2,h4,h5⟩
 | fuel+1,lo,hi,h1,h2,h3,h4,h5=>by
  unfold YM;by_cases hl:lo<hi
  ·rw [if_pos hl]
   have hm:(lo+hi) / 2<xs.size:=by omega
   have e:xs.getD ((lo+hi) / 2) j=xs.getD ((lo+hi) / 2) 0:=getD_in xs hm _ _;dsimp only;rw [e];by_cases hc:xs.getD ((lo+hi) / 2) 0<j
   ·rw [if_pos hc]
    refine qz xs hr j fuel ((lo+hi) / 2+1) hi (by omega) h2 (by omega) (fun i hi'=>?_) h5;by_cases ei:i=(lo+hi) / 2
    ·rw [ei];exact hc
    ·exact Xa (hr i _ (by omega) hm) hc
   ·rw [if_neg hc]
    refine qz xs hr j fuel lo ((lo+hi) / 2) (by omega) (by omega) (by omega) h4 fun i x8 Ej=>?_
    by_cases ei:i=(lo+hi) / 2
    ·rw [ei];omega
    ·have:=hr _ i (show(lo+hi) / 2<i by omega) Ej
     omega
  ·rw [if_neg hl]
   obtain rfl:lo=hi:=by omega
   exact⟨h2,h4,h5⟩
theorem gS (xs:Array Nat) (hr:Ri xs) (j:Nat):V4 xs j<=xs.size/\(∀i,i<V4 xs j->xs.getD i 0<j)/\∀i,V4 xs j<=i->i<xs.size->j<=xs.getD i 0 :=
 qz xs hr j xs.size 0 xs.size (VK _) (Vm _) (by omega) (fun i h=>absurd h (by omega)) fun i h1 h2=>absurd h1 (by omega)
structure Tb (t:VO):Prop where
 ri:Ri t.place
 nd:t.dummies = #[]
theorem gC {t:VO} (T:Tb t) {i:Nat} (hi:i<t.place.size):t.slot (t.place.getD i 0)=.live i:=by
 have b:=gS t.place T.ri (t.place.getD i 0);have e:V4 t.place (t.place.getD i 0)=i:=by
  rcases ZT (V4 t.place (t.place.getD i 0)) i with h|h|h
  ·have z:=b.2.2 _ (Vm _) (by omega)
   have y:=T.ri _ i h hi;omega
  ·exact h
  ·have z:=b.2.1 i h
   omega
 unfold SetTable.slot;rw [e];have e2:t.place[i]?=some (t.place.getD i 0):=by simp [WU,hi]
 dsimp only;rw [e2];simp
theorem jy {t:VO} (T:Tb t) (j:Nat):(∃i,i<t.place.size/\t.place.getD i 0=j/\t.slot j=.live i)\/((∀i,i<t.place.size->t.place.getD i 0≠j)/\t.slot j=.empty):=by
 by_cases h:∃i,i<t.place.size/\t.place.getD i 0=j
 ·obtain⟨i,h1,h2⟩:=h
  exact .inl ⟨i,h1,h2,by rw [<- h2];exact gC T h1⟩
 ·refine .inr ⟨fun i h1 h2=>h ⟨i,h1,h2⟩,?_⟩
  have hn:∀i,i<t.place.size->t.place.getD i 0≠j:=fun i h1 h2=>h ⟨i,h1,h2⟩
  unfold SetTable.slot;dsimp only;have e1:(t.place[V4 t.place j]? == some j)=false:=by
   cases e:t.place[V4 t.place j]? with
   | none=>rfl
   | some y =>
    obtain⟨h1,h2⟩:=Yc.mp e;have z:=hn _ h1
    have e3:t.place.getD (V4 t.place j) 0=y:=by simp [WU,h1,h2]
    rw [e3] at z;simpa using z
  rw [e1];have e2:aaz t.dummies j=false:=by rw [T.nd];simp [aaz]
  rw [e2];rfl
end cg
namespace cg
noncomputable def rE:Nat->Nat->Nat
 | 0,s=>s
 | r+1,s=>5 * rE r s+1
noncomputable def T5:Nat->Nat
 | 0=>0
 | r+1=>5 * T5 r+1
theorem nB:∀r s,rE r s=5 ^ r * s+T5 r
 | 0,s=>by simp [rE,T5]
 | r+1,s=>by
  rw [rE,nB r s,T5,X0,Nat.mul_add,<- Nat.mul_assoc,aaZ 5 (5 ^ r),X6]
theorem uN:∀r,4 * T5 r+1=5 ^ r
 | 0=>rfl
 | r+1=>by
  have:=uN r;rw [T5,X0,<- this];omega
theorem qA:∀a b s,rE (a+b) s=rE a (rE b s)
 | 0,b,s=>by simp [rE]
 | a+1,b,s=>by
  rw [show a+1+b=(a+b)+1 by omega,rE,rE,qA a b s]
theorem GS (a b:Nat):T5 (a+b)=5 ^ a * T5 b+T5 a:=by
 have h:=qA a b 0;rw [nB,nB a,nB b] at h;simpa using h
theorem zU:∀k,∃o,T5 (2 ^ k)=2 ^ k * (2 * o+1)
 | 0=>⟨0,rfl⟩
 | k+1=>by
  obtain⟨o,h⟩:=zU k;have e:2 ^ (k+1)=2 ^ k+2 ^ k:=by rw [X0];omega
  rw [e,GS,<- uN];refine⟨2 * T5 (2 ^ k) * o+T5 (2 ^ k)+o,?_⟩;generalize T5 (2 ^ k)=T at *
  generalize 2 ^ k=M at *
  have h3:(4 * T+1) * T+T=(2 * (2 * T+1)) * T:=by grind
  rw [h3];have h4:(2 * (2 * T+1)) * T=(2 * (2 * T+1)) * (M * (2 * o+1)):=by rw [<- h]
  rw [h4];grind
theorem cover:∀(k s j:Nat),j<2 ^ k->∃r,r<2 ^ k/\rE r s % 2 ^ k=j
 | 0,s,j,h=>⟨0,by simp,by simp at h;subst h;simp [Nat.mod_one]⟩
 | k+1,s,j,h=>by
  have e:2 ^ (k+1)=2 * 2 ^ k:=by rw [X0];omega
  have hM:0<2 ^ k:=Nat.two_pow_pos k;obtain⟨r,hr,hj⟩:=cover k s (j % 2 ^ k) (YN _ hM);obtain⟨o,ho⟩:=zU k;have hB:rE (2 ^ k+r) s=rE r s+2 ^ k * ((2 * o+1) * (4 * rE r s+1)):=by
   rw [qA,nB (2 ^ k),<- uN,ho];generalize rE r s=A;generalize 2 ^ k=M;grind
  rw [e] at h ⊢;obtain⟨A,hA⟩:∃A,rE r s=A:=⟨_,rfl⟩;rw [hA] at hB hj;generalize 2 ^ k=M at *
  have a1:=Nat.div_add_mod A M;have j1:=Nat.div_add_mod j M
  rw [hj] at a1;generalize j % M=c at *
  have hc:c<M:=by
   rw [<- hj];exact YN _ hM
  have hp:j / M=0\/j / M=1:=by
   have:j / M<2:=Nat.div_lt_of_lt_mul (by rw [aaZ];exact h)
   revert this
   generalize j / M=p;intro this;omega
  have key:∀q x,x=2 * M * q+j->x % (2 * M)=j:=fun q x e=>by
   rw [e,Nat.mul_add_mod];exact aah h
  obtain⟨q,hq⟩:∃q,A / M=2 * q\/A / M=2 * q+1:=⟨A / M / 2,by generalize A / M=z;omega⟩;generalize A / M=a at *
  generalize j / M=p at *
  obtain⟨u,hu⟩:∃u,(2 * o+1) * (4 * A+1)=2 * u+1:=⟨4 * A * o+o+2 * A,by grind⟩;rw [hu] at hB;rcases hq with rfl|rfl <;> rcases hp with rfl|rfl
  ·exact⟨r,by omega,key q _ (by grind)⟩
  ·exact⟨M+r,by omega,key (q+u) _ (by grind)⟩
  ·exact⟨M+r,by omega,key (q+u+1) _ (by grind)⟩
  ·exact⟨r,by omega,key q _ (by grind)⟩
end cg
namespace cg
open PySem
noncomputable def bN (t:VO):Nat->Xb->Xb
 | 0,p=>p
 | n+1,p=>bN t n (t.advance p)
theorem gT (t:VO):∀a b p,bN t (a+b) p=bN t b (bN t a p)
 | 0,b,p=>by simp [bN]
 | a+1,b,p=>by rw [show a+1+b=(a+b)+1 by omega,bN,bN,gT t a b]
noncomputable def start (mask i pb:Nat) (d:Option Nat):Xb:={ j:=i,more:=VT mask i - i,i:=i,perturb:=pb,dummy:=d }
theorem j0 (t:VO):∀(more j i pb:Nat) (d:Option Nat),bN t (more+1) { j:=j,more:=more,i:=i,perturb:=pb,dummy:=d }=start t.mask (Wg t.mask i pb).1 (Wg t.mask i pb).2 d
 | 0,j,i,pb,d=>by
  simp only [bN,XI];rfl
 | more+1,j,i,pb,d=>by
  rw [bN];have e:t.advance { j:=j,more:=more+1,i:=i,perturb:=pb,dummy:=d }={ j:=j+1,more:=more,i:=i,perturb:=pb,dummy:=d }:=by
   simp [XI]
  rw [e];exact j0 t more (j+1) i pb d
noncomputable def lp (mask:Nat):Nat->Nat × Nat->Nat × Nat
 | 0,x=>x
 | q+1,x=>Wg mask (lp mask q x).1 (lp mask q x).2
theorem starts (t:VO) (d:Option Nat) (i pb:Nat):∀q,∃n,n<=10 * q/\bN t n (start t.mask i pb d)=start t.mask (lp t.mask q (i,pb)).1 (lp t.mask q (i,pb)).2 d
 | 0=>⟨0,Vm _,rfl⟩
 | q+1=>by
  obtain⟨n,h1,h2⟩:=starts t d i pb q;have hr:VT t.mask (lp t.mask q (i,pb)).1 - (lp t.mask q (i,pb)).1<=9:=by
   unfold VT;split <;> omega
  refine⟨n+(VT t.mask (lp t.mask q (i,pb)).1 - (lp t.mask q (i,pb)).1+1),by omega,?_⟩;rw [gT,h2,start,j0];rfl
theorem Ew (mask:Nat) (x:Nat × Nat):∀q,(lp mask q x).2=x.2 / 32 ^ q
 | 0=>by simp [lp]
 | q+1=>by
  rw [lp,Wg,Ew mask x q,X0,Nat.div_div_eq_div_mul]
theorem C0 {mask:Nat} {x:Nat × Nat} (h:x.2<2 ^ 64) {q:Nat} (hq:13<=q):(lp mask q x).2=0:=by
 rw [Ew];apply Nat.div_eq_of_lt
 calc x.2<2 ^ 64:=h
  _<=32 ^ 13:=by decide
  _<=32 ^ q:=aaD (by decide) hq
theorem uO {mask:Nat} {x:Nat × Nat} (h:x.2<2 ^ 64):∀r,(lp mask (13+r) x).1 % (mask+1)=rE r (lp mask 13 x).1 % (mask+1)
 | 0=>rfl
 | r+1=>by
  have e:lp mask (13+(r+1)) x=Wg mask (lp mask (13+r) x).1 (lp mask (13+r) x).2:=rfl;rw [e,Wg,C0 h (by omega)];show((lp mask (13+r) x).1 * 5+1+0 / 32) % (mask+1) % (mask+1)=_
  rw [Nat.mod_mod,rE];simp only [Nat.zero_div,Zq];rw [Nat.add_mod,Nat.mul_mod,uO h r,<- Nat.mul_mod,<- Nat.add_mod,aaZ]
theorem GU (t:VO) {k:Nat} (hk:t.mask+1=2 ^ k) (h:Int) {j:Nat} (hj:j<=t.mask):∃n,n<=10 * (t.mask+14)/\(bN t n (t.probeStart h)).j=j:=by
 have e:t.probeStart h=start t.mask (VY h % (t.mask+1)) (VY h) none:=rfl;have hb:VY h<2 ^ 64:=by
  unfold VY;have h1:=Xo h (show(0:Int)<2 ^ 64 by decide)
  have h2:=XA h (show(2 ^ 64:Int)≠0 by decide);omega
 let x:Nat × Nat:=(VY h % (t.mask+1),VY h)
 obtain⟨r,hr,hx⟩:=cover k (lp t.mask 13 x).1 j (by omega);rw [<- hk] at hx hr;have h1:=uO (mask:=t.mask) (x:=x) hb r
 have h2:(lp t.mask (13+r) x).1<t.mask+1:=by
  rw [show 13+r=(12+r)+1 by omega,lp,Wg];exact YN _ (Zr _)
 rw [aah h2,hx] at h1;obtain⟨n,h3,h4⟩:=starts t none x.1 x.2 (13+r);refine⟨n,by omega,?_⟩;rw [e];show(bN t n (start t.mask x.1 x.2 none)).j=j
 rw [h4];exact h1
theorem uP {t:VO} (T:Tb t) (hf:t.place.size<=t.mask):∃j,j<=t.mask/\t.slot j=.empty:=by
 refine WX fun lU=>?_
 have all:∀j,j<=t.mask->∃i,i<t.place.size/\t.place.getD i 0=j:=fun j hj=>by
  rcases jy T j with⟨i,h1,h2,_⟩|⟨_,h2⟩
  ·exact⟨i,h1,h2⟩
  ·exact absurd ⟨j,hj,h2⟩ lU
 have up:∀j,j<=t.mask->∀i,i<t.place.size->t.place.getD i 0=j->j<=i:=by
  intro j;induction j with
  | zero=>intro _ i _ _;omega
  | succ j ih =>
   intro hj i hi e;obtain⟨i',hi',e'⟩:=all j (by omega);have:=ih (by omega) i' hi' e'
   rcases ZT i i' with q|q|q
   ·have:=T.ri i i' q hi';omega
   ·subst q;omega
   ·omega
 obtain⟨i,hi,e⟩:=all t.mask (Vm _);have:=up _ (Vm _) i hi e
 omega
theorem first (P:Nat->Prop) (n:Nat) (h:P n):∃m,m<=n/\P m/\∀i,i<m->¬ P i:=by
 induction n using Nat.strongRecOn with
 | ind n ih =>
  by_cases q:∃i,i<n/\P i
  ·obtain⟨i,h1,h2⟩:=q
   obtain⟨m,a,b,c⟩:=ih i h1 h2;exact⟨m,by omega,b,c⟩
  ·exact⟨n,Vm _,h,fun i hi hp=>q ⟨i,hi,hp⟩⟩
theorem way {t:VO} (T:Tb t) {k:Nat} (hk:t.mask+1=2 ^ k) (hf:t.place.size<=t.mask) (h:Int) (hit:Nat->Prop) :
  ∃n,n<=10 * (t.mask+14)/\(t.slot (bN t n (t.probeStart h)).j=.empty\/∃i,i<t.place.size/\t.slot (bN t n (t.probeStart h)).j=.live i/\hit i) /\
   ∀m,m<n->∃i,i<t.place.size/\t.slot (bN t m (t.probeStart h)).j=.live i/\¬ hit i:=by
 obtain⟨j,hj,he⟩:=uP T hf;obtain⟨n,hn,e⟩:=GU t hk h hj;obtain⟨m,hm,hp,hb⟩:=first (fun n=>t.slot (bN t n (t.probeStart h)).j=.empty\/∃i,i<t.place.size/\t.slot (bN t n (t.probeStart h)).j=.live i/\hit i) n (.inl (by rw [e];exact he))
 refine⟨m,by omega,hp,fun i hi=>?_⟩;have lU:=hb i hi
 rcases jy T (bN t i (t.probeStart h)).j with⟨a,h1,h2,h3⟩|⟨_,h2⟩
 ·exact⟨a,h1,h3,fun z=>lU (.inr ⟨a,h1,h3,z⟩)⟩
 ·exact absurd (.inl h2) lU
theorem zV (t:VO) (hashAt:Nat->Int) (h:Int):∀(n fuel:Nat) (p:Xb),(∀m,m<n->∃i,t.slot (bN t m p).j=.live i/\(hashAt i == h)=false)->n<=fuel ->
  XC t hashAt h fuel p=XC t hashAt h (fuel - n) (bN t n p)
 | 0,fuel,p,_,_=>rfl
 | n+1,0,p,_,hf=>absurd hf (by omega)
 | n+1,fuel+1,p,hm,hf=>by
  obtain⟨i,h1,h2⟩:=hm 0 (by omega);have h1:t.slot p.j=.live i:=h1
  rw [XC,h1];simp only [h2,Vi,if_false];rw [zV t hashAt h n fuel (t.advance p) (fun m q=>hm (m+1) (by omega)) (by omega)];rw [show fuel+1 - (n+1)=fuel - n by omega];rfl
noncomputable def GV (t:VO) (h:Int) (j:Nat):Prop:=∃n,n<10 * (t.mask+15)/\(bN t n (t.probeStart h)).j=j/\∀m,m<n->t.slot (bN t m (t.probeStart h)).j≠.empty
structure rF (t:VO) (hs:Array Int):Prop where
 tb:Tb t
 sz:t.place.size=hs.size
 le:∀i,i<t.place.size->t.place.getD i 0<=t.mask
 fill:hs.size<=t.mask
 pw:∃k,t.mask+1=2 ^ k
 uQ:∀i,i<hs.size->GV t (hs.getD i 0) (t.place.getD i 0)
theorem gE {t t':VO} (h:t'.mask=t.mask):∀n p,bN t' n p=bN t n p
 | 0,p=>rfl
 | n+1,p=>by
  have e:t'.advance p=t.advance p:=by simp only [XI,h]
  rw [bN,bN,e,gE h n]
theorem gU {t t':VO} (hm:t'.mask=t.mask) (h:Int):t'.probeStart h=t.probeStart h:=by simp only [SetTable.probeStart,hm]
theorem cN {α:Type} (xs:Array α) {p:Nat} (hp:p<=xs.size) (x:α):(VR xs p x).size=xs.size+1:=by
 unfold VR;simp;omega
theorem gV {α:Type} (xs:Array α) {p:Nat} (hp:p<=xs.size) (x:α) (i:Nat):(VR xs p x)[i]?=if i<p then xs[i]? else if i=p then some x else xs[i - 1]?:=by
 unfold VR;rw [Array.getElem?_append];have e:((xs.extract 0 p).push x).size=p+1:=by simp;omega
 rw [e];by_cases h1:i<p
 ·rw [if_pos (Wa h1),if_pos h1,Yq]
  rw [if_neg (by simp;omega),aap];simp;omega
 ·rw [if_neg h1]
  by_cases h2:i=p
  ·rw [if_pos (Nat.lt_succ_of_le (Yt h2)),if_pos h2,Yq]
   rw [if_pos (by simp;omega)]
  ·rw [if_neg (by omega),if_neg h2,aap]
   have e2:p+(i - (p+1))=i - 1:=by omega
   rw [e2];by_cases h3:i - 1<xs.size
   ·rw [if_pos (by omega)]
   ·rw [if_neg (by omega)]
    simp;omega
theorem jh {α:Type} (xs:Array α) {p:Nat} (hp:p<=xs.size) (x d:α) (i:Nat):(VR xs p x).getD i d=if i<p then xs.getD i d else if i=p then x else xs.getD (i - 1) d:=by
 rw [VG,gV xs hp x i,VG,VG];split
 ·rfl
 ·split <;> rfl
theorem qm {t:VO} {hs:Array Int} (I:rF t hs) {h:Int} {n:Nat} (hn:n<10 * (t.mask+15)) (he:t.slot (bN t n (t.probeStart h)).j=.empty) (hj:(bN t n (t.probeStart h)).j<=t.mask)
  (hw:∀m,m<n->t.slot (bN t m (t.probeStart h)).j≠.empty) (Ex:hs.size+1<=t.mask) :
  rF (t.put (bN t n (t.probeStart h)).j).1 (VR hs (t.put (bN t n (t.probeStart h)).j).2 h)/\(t.put (bN t n (t.probeStart h)).j).2<=hs.size:=by
 generalize SF:(bN t n (t.probeStart h)).j=j at *
 have Kl:∀i,i<t.place.size->t.place.getD i 0≠j:=fun i hi e=>by
  have z:=gC I.tb hi;rw [e,he] at z;cases z
 have hb:=gS t.place I.tb.ri j;have xH:(t.put j).2=V4 t.place j:=rfl
 have hm:(t.put j).1.mask=t.mask:=rfl;have hpl:(t.put j).1.place=VR t.place (V4 t.place j) j:=rfl
 have hd:(t.put j).1.dummies = #[]:=by
  show(if aaz t.dummies j then _ else t.dummies) = #[];rw [I.tb.nd];simp [aaz]
 have gp:=jh t.place hb.1 j 0;have sp:=cN t.place hb.1 j
 generalize V4 t.place j=bb at hb xH hpl gp sp;have hsz:=I.sz
 have Ef:bb<=hs.size:=by omega
 have ri:Ri (t.put j).1.place:=fun a b hab SG=>by
  rw [hpl,sp] at SG;rw [hpl,gp,gp];have h1:=hb.2.1
  have h2:=hb.2.2;by_cases b1:b<bb
  ·rw [if_pos (Xa hab b1),if_pos b1];exact I.tb.ri a b hab (VF b1 hb.1)
  ·rw [if_neg b1]
   by_cases b2:b=bb
   ·rw [if_pos b2,if_pos (b2 ▸ hab)];exact h1 a (b2 ▸ hab)
   ·rw [if_neg b2]
    have b3:bb<=b - 1:=by omega
    have b4:b - 1<t.place.size:=by omega
    by_cases a1:a<bb
    ·rw [if_pos a1];exact I.tb.ri a (b - 1) (VF a1 b3) b4
    ·rw [if_neg a1]
     by_cases a2:a=bb
     ·rw [if_pos a2]
      have z:=h2 (b - 1) b3 b4;have y:=Kl (b - 1) b4
      omega
     ·rw [if_neg a2];exact I.tb.ri (a - 1) (b - 1) (by omega) b4
 have tb:Tb (t.put j).1:=⟨ri,hd⟩;have mono:∀c,t.slot c≠.empty->(t.put j).1.slot c≠.empty:=fun c hc z=>by
  rcases jy I.tb c with⟨i,h1,h2,_⟩|⟨_,h2⟩
  ·have key:∃i',i'<(t.put j).1.place.size/\(t.put j).1.place.getD i' 0=c:=by
    rw [hpl,sp];by_cases q:i<bb
    ·exact⟨i,Wa h1,by rw [gp,if_pos q];exact h2⟩
    ·exact⟨i+1,Nat.succ_lt_succ h1,by rw [gp,if_neg (by omega),if_neg (by omega)];exact h2⟩
   obtain⟨i',k1,k2⟩:=key;have y:=gC tb k1
   rw [k2,z] at y;cases y
  ·exact hc h2
 refine⟨⟨tb,?_,?_,?_,?_,?_⟩,?_⟩
 ·rw [xH,hpl,sp,cN hs Ef,hsz]
 ·intro i hi
  rw [hpl,sp] at hi;rw [hpl,gp,hm];split
  ·exact I.le i (by omega)
  ·split
   ·exact hj
   ·exact I.le (i - 1) (by omega)
 ·rw [xH,cN hs Ef,hm];exact Ex
 ·rw [hm];exact I.pw
 ·intro i hi
  rw [xH,cN hs Ef] at hi;rw [xH,hpl,gp,jh hs Ef];have lift:∀h' c,GV t h' c->GV (t.put j).1 h' c:=fun h' c ⟨n',k1,k2,k3⟩ =>
   ⟨n',by rw [hm];exact k1,by rw [gU hm,gE hm];exact k2,fun m q=>by rw [gU hm,gE hm];exact mono _ (k3 m q)⟩
  split
  ·exact lift _ _ (I.uQ i (by omega))
  ·split
   ·exact lift _ _ ⟨n,hn,SF,hw⟩
   ·exact lift _ _ (I.uQ (i - 1) (by omega))
 ·rw [xH];exact Ef
theorem Km {mask k:Nat} (hk:mask+1=2 ^ k) (h:Int) {j:Nat} (hj:j<=mask):∃q,q<=13+mask/\(lp mask q (VY h % (mask+1),VY h)).1=j:=by
 have hb:VY h<2 ^ 64:=by
  unfold VY;have h1:=Xo h (show(0:Int)<2 ^ 64 by decide)
  have h2:=XA h (show(2 ^ 64:Int)≠0 by decide);omega
 let x:Nat × Nat:=(VY h % (mask+1),VY h)
 obtain⟨r,hr,hx⟩:=cover k (lp mask 13 x).1 j (by omega);rw [<- hk] at hx hr;have h1:=uO (mask:=mask) (x:=x) hb r
 have h2:(lp mask (13+r) x).1<mask+1:=by
  rw [show 13+r=(12+r)+1 by omega,lp,Wg];exact YN _ (Zr _)
 rw [aah h2,hx] at h1;exact⟨13+r,by omega,h1⟩
theorem mN (t:VO):∀(n more j i pb:Nat) (d:Option Nat),n<=more->bN t n { j:=j,more:=more,i:=i,perturb:=pb,dummy:=d }={ j:=j+n,more:=more - n,i:=i,perturb:=pb,dummy:=d }
 | 0,more,j,i,pb,d,_=>rfl
 | n+1,0,j,i,pb,d,h=>absurd h (by omega)
 | n+1,more+1,j,i,pb,d,h=>by
  rw [bN];have e:t.advance { j:=j,more:=more+1,i:=i,perturb:=pb,dummy:=d }={ j:=j+1,more:=more,i:=i,perturb:=pb,dummy:=d }:=by simp [XI]
  rw [e,mN t n more (j+1) i pb d (by omega)];simp only [SetTable.Probe.mk.injEq,and_true];omega
noncomputable def Fr (owner:Array (Option Nat)) (c:Nat):Prop:=(owner.getD c (some 0)).isNone=true
theorem si (mask:Nat) (x:Nat × Nat):∀q,lp mask (q+1) x=lp mask q (Wg mask x.1 x.2)
 | 0=>rfl
 | q+1=>by rw [lp,si mask x q,lp]
theorem pv (t:VO) (owner:Array (Option Nat)):∀(fuel i pb:Nat),(∃q,q<fuel/\Fr owner (lp t.mask q (i,pb)).1) ->
  ∃j n,YI t.mask owner fuel i pb=some j/\n+1<=10 * fuel/\(bN t n (start t.mask i pb none)).j=j/\Fr owner j/\∀m,m<n->¬ Fr owner (bN t m (start t.mask i pb none)).j
 | 0,i,pb,⟨q,hq,_⟩=>absurd hq (by omega)
 | fuel+1,i,pb,⟨q,hq,hf⟩=>by
  have hr:VT t.mask i - i<=9/\i<=VT t.mask i:=by
   unfold VT;split <;> omega
  unfold YI;cases e:(V5 (VT t.mask i+1 - i)).find? fun k=>(owner.getD (i+k) (some 0)).isNone with
  | some k =>
   obtain⟨h1,hk,h3⟩:=List.find?_range_eq_some.mp e;have hk:=V3.mp hk
   have SH:∀m,m<k->(owner.getD (i+m) (some 0)).isNone=false:=fun m hm=>by simpa using h3 m hm
   refine⟨i+k,k,rfl,by omega,?_,h1,fun m hm=>?_⟩
   ·rw [start,mN t k _ _ _ _ _ (by omega)]
   ·rw [start,mN t m _ _ _ _ _ (by omega)]
    show ¬ (owner.getD (i+m) (some 0)).isNone=true;rw [SH m hm];simp
  | none =>
   have lU:∀k,k<VT t.mask i+1 - i->(owner.getD (i+k) (some 0)).isNone=false:=fun k hk=>by
    have:=WD.mp e k (V3.mpr hk);exact Bool.eq_false_iff.mpr this
   obtain⟨q,rfl⟩:∃q',q=q'+1:=by
    cases q with
    | zero =>
     have z:=lU 0 (by omega);have hf:(owner.getD i (some 0)).isNone=true:=hf
     rw [Zq,hf] at z;cases z
    | succ q=>exact⟨q,rfl⟩
   rw [si] at hf;obtain⟨j,n,g1,g2,g3,g4,g5⟩:=pv t owner fuel (Wg t.mask i pb).1 (Wg t.mask i pb).2 ⟨q,by omega,hf⟩;refine⟨j,(VT t.mask i - i+1)+n,g1,by omega,?_,g4,fun m hm=>?_⟩
   ·rw [gT,start,j0];exact g3
   ·by_cases GW:m<=VT t.mask i - i
    ·rw [start,mN t m _ _ _ _ _ GW]
     show ¬ (owner.getD (i+m) (some 0)).isNone=true;rw [lU m (by omega)];simp
    ·have em:m=(VT t.mask i - i+1)+(m - (VT t.mask i - i+1)):=by omega
     rw [em,gT,start,j0];exact g5 _ (by omega)
theorem pz:∀(n:Nat) (l:List Nat),l.Nodup->(∀x∈l,x<n)->l.length<=n
 | 0,l,_,h=>by
  cases l with
  | nil=>simp
  | cons a r=>exact absurd (h a (by simp)) (by omega)
 | n+1,l,hn,h=>by
  have h1:=pz n (l.erase n) (hn.erase n) fun x hx=>by
   have a:=h x (List.mem_of_mem_erase hx);have b:x≠n:=fun e=>by
    subst e;exact(hn.not_mem_erase) hx
   omega
  have h2:l.length<=(l.erase n).length+1:=by
   by_cases hm:n∈l
   ·rw [Yw hm];omega
   ·rw [List.erase_of_not_mem hm];omega
  omega
structure Own (t:VO) (owner:Array (Option Nat)) (hs:List Int) (pos:Nat->Nat):Prop where
 sz:owner.size=t.mask+1
 at_:∀c,c<=t.mask->∀i,owner.getD c none=some i↔(i<hs.length/\pos i=c)
 le:∀i,i<hs.length->pos i<=t.mask
 uQ:∀i (hi:i<hs.length),∃n,n<10 * (t.mask+15)/\(bN t n (t.probeStart hs[i])).j=pos i/\∀m,m<n->¬ Fr owner (bN t m (t.probeStart hs[i])).j
theorem Own.nC {t:VO} {owner:Array (Option Nat)} {hs:List Int} {pos:Nat->Nat} (O:Own t owner hs pos) (c:Nat):Fr owner c↔(c<=t.mask/\∀i,i<hs.length->pos i≠c):=by
 unfold Fr;constructor
 ·intro h
  have hc:c<=t.mask:=by
   refine WX fun hc=>?_
   have hs':=O.sz;have:owner.getD c (some 0)=some 0:=by simp [WU,show ¬ c<owner.size by omega]
   rw [this] at h;cases h
  refine⟨hc,fun i hi e=>?_⟩;have z:=(O.at_ c hc i).mpr ⟨hi,e⟩
  have bQ:c<owner.size:=by rw [O.sz];omega
  have e2:owner.getD c (some 0)=owner.getD c none:=by simp [WU,bQ]
  rw [e2,z] at h;cases h
 ·rintro⟨hc,h⟩
  have bQ:c<owner.size:=by rw [O.sz];omega
  have e2:owner.getD c (some 0)=owner.getD c none:=by simp [WU,bQ]
  rw [e2];cases e:owner.getD c none with
  | none=>rfl
  | some i =>
   obtain⟨h1,h2⟩:=(O.at_ c hc i).mp e;exact absurd h2 (h i h1)
theorem Own.xI {t:VO} {owner:Array (Option Nat)} {hs:List Int} {pos:Nat->Nat} (O:Own t owner hs pos) (hf:hs.length<=t.mask):∃c,c<=t.mask/\Fr owner c:=by
 refine WX fun lU=>?_
 have all:∀c,c<=t.mask->∃i,i<hs.length/\pos i=c:=fun c hc=>WX fun hn=>lU ⟨c,hc,(O.nC c).mpr ⟨hc,fun i hi e=>hn ⟨i,hi,e⟩⟩⟩
 have NQ:∀c,∃i,c<=t.mask->i<hs.length/\pos i=c:=fun c=>by
  by_cases hc:c<=t.mask
  ·obtain⟨i,h⟩:=all c hc;exact⟨i,fun _=>h⟩
  ·exact⟨0,fun z=>absurd z hc⟩
 obtain⟨g,hg⟩:=aag.mp NQ;have h1:=pz hs.length ((V5 (t.mask+1)).map g) (by
  unfold List.Nodup;rw [X9];refine ZU (R:=fun a b=>a<b) (fun {a b} ha hb bQ e=>?_) aaq;have ha':=(hg a (by have:=V3.mp ha;omega)).2
  have hb':=(hg b (by have:=V3.mp hb;omega)).2;rw [e] at ha';omega) fun x hx=>by
   obtain⟨c,hc,rfl⟩:=U6.mp hx;exact(hg c (by have:=V3.mp hc;omega)).1
 simp at h1;omega
noncomputable def zW (mask:Nat) (acc:Option (Array (Option Nat) × Nat)) (h:Int):Option (Array (Option Nat) × Nat):=do
 let (owner,k) <- acc
 let j <- YI mask owner (WY mask) (VY h % (mask+1)) (VY h)
 pure (owner.setIfInBounds j (some k),k+1)
theorem sj (mask:Nat) (hashes:Array Int):YO mask hashes=(hashes.toList.foldl (zW mask) (some (Array.replicate (mask+1) none,0))).map (·.1):=by
 unfold YO;rw [<- Array.foldl_toList];rfl
theorem Own.step {t:VO} {k:Nat} (hk:t.mask+1=2 ^ k) {owner:Array (Option Nat)} {hs:List Int} {pos:Nat->Nat} (O:Own t owner hs pos) (hf:hs.length<=t.mask) (h:Int) :
  ∃nE pos',zW t.mask (some (owner,hs.length)) h=some (nE,hs.length+1)/\Own t nE (hs++[h]) pos':=by
 obtain⟨c,hc,yH⟩:=O.xI hf;obtain⟨q,hq,e⟩:=Km hk h hc;obtain⟨j,n,g1,g2,g3,g4,g5⟩:=pv t owner (WY t.mask) (VY h % (t.mask+1)) (VY h) ⟨q,by unfold WY;omega,by rw [e];exact yH⟩;have hj:=(O.nC j).mp g4
 have I8:∀i,i<hs.length+1->i≠hs.length->i<hs.length:=fun i a b=>by omega
 have bQ:j<owner.size:=by rw [O.sz];omega
 have gs:∀c d,(owner.setIfInBounds j (some hs.length)).getD c d=if c=j then some hs.length else owner.getD c d:=fun c d=>by
  rw [VG,VG,Array.getElem?_setIfInBounds];by_cases ec:j=c
  ·subst ec;simp [bQ]
  ·rw [if_neg ec,if_neg (WA ec)]
 refine⟨owner.setIfInBounds j (some hs.length),fun i=>if i=hs.length then j else pos i,?_,?_⟩
 ·unfold zW
  simp only [Option.bind_eq_bind,Xl,g1];rfl
 ·have Qw:∀c,Fr (owner.setIfInBounds j (some hs.length)) c->Fr owner c:=fun c hc=>by
   unfold Fr at hc ⊢;rw [gs] at hc;by_cases ec:c=j
   ·rw [if_pos ec] at hc;cases hc
   ·rw [if_neg ec] at hc;exact hc
  refine⟨by rw [Array.size_setIfInBounds];exact O.sz,fun c hc i=>?_,fun i hi=>?_,fun i hi=>?_⟩
  ·rw [gs,U3,V6]
   by_cases ec:c=j
   ·subst ec
    rw [if_pos rfl];constructor
    ·intro e;cases e;exact⟨WH _,by rw [if_pos rfl]⟩
    ·rintro⟨h1,h2⟩
     by_cases ei:i=hs.length
     ·rw [ei]
     ·rw [if_neg ei] at h2
      exact absurd h2 (hj.2 i (I8 i h1 ei))
   ·rw [if_neg ec,O.at_ c hc i]
    constructor
    ·rintro⟨h1,h2⟩;exact⟨Wa h1,by rw [if_neg (VB h1)];exact h2⟩
    ·rintro⟨h1,h2⟩
     by_cases ei:i=hs.length
     ·rw [if_pos ei] at h2;exact absurd h2.symm ec
     ·rw [if_neg ei] at h2;exact⟨I8 i h1 ei,h2⟩
  ·rw [U3,V6] at hi
   by_cases ei:i=hs.length
   ·show(if i=hs.length then j else pos i)<=t.mask
    rw [if_pos ei];exact hj.1
   ·show(if i=hs.length then j else pos i)<=t.mask
    rw [if_neg ei];exact O.le i (I8 i hi ei)
  ·rw [U3,V6] at hi
   by_cases ei:i=hs.length
   ·subst ei
    have e2:(hs++[h])[hs.length]=h:=by simp
    rw [e2];refine⟨n,by unfold WY at g2;omega,by rw [if_pos rfl];exact g3,fun m hm z=>g5 m hm (Qw _ z)⟩
   ·obtain⟨n',k1,k2,k3⟩:=O.uQ i (I8 i hi ei)
    have e2:(hs++[h])[i]=hs[i]'(I8 i hi ei):=List.getElem_append_left (I8 i hi ei);rw [e2];exact⟨n',k1,by rw [if_neg ei];exact k2,fun m hm z=>k3 m hm (Qw _ z)⟩
theorem so {t:VO} {k:Nat} (hk:t.mask+1=2 ^ k):∀(l:List Int) (owner:Array (Option Nat)) (pre:List Int) (pos:Nat->Nat),Own t owner pre pos->pre.length+l.length<=t.mask+1 ->
  ∃nE pos',l.foldl (zW t.mask) (some (owner,pre.length))=some (nE,pre.length+l.length)/\Own t nE (pre++l) pos'
 | [],owner,pre,pos,O,_=>⟨owner,pos,by simp,by simpa using O⟩
 | h::l,owner,pre,pos,O,hf=>by
  simp only [Vb] at hf;obtain⟨o1,p1,e1,O1⟩:=O.step hk (by omega) h;obtain⟨o2,p2,e2,O2⟩:=so hk l o1 (pre++[h]) p1 O1 (by rw [U3,V6];omega);refine⟨o2,p2,?_,by simpa using O2⟩;rw [Yy,e1];rw [U3,V6] at e2;rw [e2];simp only [Vb];congr 2;omega
theorem GX {t:VO} {k:Nat} (hk:t.mask+1=2 ^ k) (hs:Array Int) (hf:hs.size<=t.mask):∃owner pos,YO t.mask hs=some owner/\Own t owner hs.toList pos:=by
 have O0:Own t (Array.replicate (t.mask+1) none) [] (fun _=>0):=⟨by simp,fun c hc i=>by simp [WU,hc],fun i hi=>by simp at hi,fun i hi=>by simp at hi⟩;obtain⟨o,p,e,O⟩:=so hk hs.toList _ [] _ O0 (by simp;omega);refine⟨o,p,?_,by simpa using O⟩;rw [sj,show(0:Nat)=([]:List Int).length from rfl,e];rfl
theorem pA {mask i:Nat} (h:i<=mask):i<=VT mask i/\VT mask i<=mask:=by
 unfold VT;split <;> omega
theorem uR (t:VO) (p:Xb) (h:p.j+p.more<=t.mask):(t.advance p).j+(t.advance p).more<=t.mask:=by
 unfold XI;split
 ·show p.j+1+(p.more - 1)<=t.mask
  omega
 ·have hl:(Wg t.mask p.i p.perturb).1<=t.mask:=by
   unfold Wg;exact Nat.le_of_lt_succ (YN _ (Zr _))
  have hr:=pA hl;show(Wg t.mask p.i p.perturb).1+(VT t.mask (Wg t.mask p.i p.perturb).1 - (Wg t.mask p.i p.perturb).1)<=t.mask
  omega
theorem uS (t:VO):∀(n:Nat) (p:Xb),p.j+p.more<=t.mask->(bN t n p).j<=t.mask
 | 0,p,h=>by show p.j<=t.mask;omega
 | n+1,p,h=>uS t n _ (uR t p h)
theorem sq (t:VO) (h:Int):(t.probeStart h).j+(t.probeStart h).more<=t.mask:=by
 have hl:VY h % (t.mask+1)<=t.mask:=Nat.le_of_lt_succ (YN _ (Zr _));have hr:=pA hl
 show VY h % (t.mask+1)+(VT t.mask (VY h % (t.mask+1)) - VY h % (t.mask+1))<=t.mask;omega
theorem C1 {mask k:Nat} (hk:mask+1=2 ^ k) (finger moves:Nat) (led plain:Bool) (hs:Array Int) (hf:hs.size<=mask) :
  ∃t order,SetTable.laid mask finger moves led plain hs=some (t,order)/\t.mask=mask/\t.led=led/\t.plain=plain/\order.toList.Perm (V5 hs.size)/\rF t (order.map fun i=>hs.getD i 0):=by
 let t0:VO:={ mask:=mask,place:=#[],dummies:=#[],finger:=finger,led:=led,moves:=moves,plain:=plain }
 obtain⟨owner,pos,e,O⟩:=GX (t:=t0) hk hs hf;have e:YO mask hs=some owner:=e
 let live:List (Nat × Nat):=(V5 (mask+1)).filterMap fun j=>(owner.getD j none).map (j,·)
 let t:VO:={ mask:=mask,place:=(live.map (·.1)).toArray,dummies:=#[],finger:=finger,led:=led,moves:=moves,plain:=plain }
 have hlen:hs.toList.length=hs.size:=by simp
 have mem:∀j i,(j,i)∈live↔(j<=mask/\i<hs.size/\pos i=j):=fun j i=>by
  have z:(j,i)∈live↔∃a,a∈V5 (mask+1)/\(owner.getD a none).map (a,·)=some (j,i):=Zn;rw [z];constructor
  ·rintro⟨a,h1,h2⟩
   obtain⟨b,h3,h4⟩:=Vj.mp h2;cases h4;have ha:j<=mask:=by have:=V3.mp h1;omega
   have:=(O.at_ j ha i).mp h3;exact⟨ha,by rw [<- hlen];exact this.1,this.2⟩
  ·rintro⟨h1,h2,h3⟩
   exact⟨j,V3.mpr (by omega),by rw [(O.at_ j h1 i).mpr ⟨by rw [hlen];exact h2,h3⟩];rfl⟩
 have rise:live.Pairwise fun a b=>a.1<b.1:=by
  refine List.Pairwise.filterMap (R:=fun a b=>a<b) _ (fun a a' SJ b hb b' hb'=>?_) aaq;obtain⟨_,_,rfl⟩:=Vj.mp hb;obtain⟨_,_,rfl⟩:=Vj.mp hb';exact SJ
 have SK:(live.map (·.2)).Nodup:=by
  unfold List.Nodup;rw [X9];refine ZU (fun {a b} ha hb bQ e2=>?_) rise;have h1:=((mem a.1 a.2).mp ha).2.2
  have h2:=((mem b.1 b.2).mp hb).2.2;rw [e2] at h1;omega
 have perm:(live.map (·.2)).Perm (V5 hs.size):=by
  refine(Xh SK List.nodup_range).mpr fun i=>?_
  rw [V3];constructor
  ·intro hi
   obtain⟨⟨j,i'⟩,h1,rfl⟩:=U6.mp hi;exact((mem j i').mp h1).2.1
  ·intro hi
   exact U6.mpr ⟨(pos i,i),(mem _ _).mpr ⟨O.le i (by rw [hlen];exact hi),hi,rfl⟩,rfl⟩
 have ri:Ri t.place:=fun a b hab hb=>by
  show(live.map (·.1)).toArray.getD a 0<(live.map (·.1)).toArray.getD b 0;have hb':b<live.length:=by
   have:(live.map (·.1)).toArray.size=live.length:=by simp
   show b<live.length;rw [<- this];exact hb
  have z:=ZC.mp rise a b (by omega) hb' hab;simpa [WU,show a<live.length by omega,hb'] using z
 have tb:Tb t:=⟨ri,rfl⟩;have NS:t.place.size=live.length:=by show(live.map (·.1)).toArray.size=_;simp
 have GY:∀i (hi:i<live.length),t.place.getD i 0=(live[i]).1:=fun i hi=>by
  show(live.map (·.1)).toArray.getD i 0=_;simp [WU,hi]
 have full:∀c,¬ Fr owner c->c<=mask->t.slot c≠.empty:=fun c hc hle z=>by
  have hex:∃i,i<hs.size/\pos i=c:=WX fun lU=>hc ((O.nC c).mpr ⟨hle,fun i hi e2=>lU ⟨i,by rw [<- hlen];exact hi,e2⟩⟩)
  obtain⟨i,h1,h2⟩:=hex;obtain⟨a,ha,ea⟩:=Yf.mp ((mem c i).mpr ⟨hle,h1,h2⟩);have y:=gC tb (i:=a) (by rw [NS];exact ha)
  rw [GY a ha,ea,z] at y;cases y
 have NT:live.length=hs.size:=by
  have:=perm.length_eq;simpa using this
 have Ko:∀h m,(bN t m (t.probeStart h)).j<=mask:=fun h m=>uS t m _ (sq t h)
 refine⟨t,(live.map (·.2)).toArray,?_,rfl,rfl,rfl,by simpa using perm,tb,?_,?_,?_,⟨k,hk⟩,?_⟩
 ·unfold SetTable.laid
  rw [e];rfl
 ·rw [NS];simp
 ·intro i hi
  rw [NS] at hi;rw [GY i hi];exact((mem _ _).mp (Vp hi)).1
 ·rw [Wd,Ww,Lm9,NT];exact hf
 ·intro i hi
  have hi':i<live.length:=by simpa using hi
  have e1:((live.map (·.2)).toArray.map fun i=>hs.getD i 0).getD i 0=hs.getD (live[i]).2 0:=by simp [WU,hi']
  rw [e1,GY i hi'];have mm:(live[i]).1<=mask/\(live[i]).2<hs.size/\pos (live[i]).2=(live[i]).1:=(mem _ _).mp (Vp hi')
  obtain⟨m1,m2,m3⟩:=mm;obtain⟨n,k1,k2,k3⟩:=O.uQ (live[i]).2 (by rw [hlen];exact m2);have e2:hs.toList[(live[i]).2]'(by rw [hlen];exact m2)=hs.getD (live[i]).2 0:=by simp [WU,m2]
  rw [e2] at k2 k3;refine⟨n,k1,?_,fun m hm=>?_⟩
  ·rw [gE (t:=t0) (t':=t) rfl,gU (t:=t0) (t':=t) rfl,k2,m3]
  ·refine full _ ?_ (Ko _ _)
   rw [gE (t:=t0) (t':=t) rfl,gU (t:=t0) (t':=t) rfl];exact k3 m hm
theorem pB (t:VO):∀(n:Nat) (p:Xb),(bN t n p).dummy=p.dummy
 | 0,p=>rfl
 | n+1,p=>by
  rw [bN,pB t n];unfold XI;split <;> rfl
theorem zX (t:VO) (n:Nat) (p:Xb):t.advance (bN t n p)=bN t (n+1) p:=by
 rw [gT t n 1 p];rfl
theorem Ey {t:VO} {H:Nat->Int} {h:Int} {m0 c:Nat} (hb:∀c',c'<c->∃i,t.slot (bN t (m0+c') (t.probeStart h)).j=.live i/\(H i == h)=false) (hc:c<10 * WY t.mask) :
  ∃f,t.probe H h (bN t m0 (t.probeStart h))=XC t H h (f+1) (bN t (m0+c) (t.probeStart h)):=by
 refine⟨10 * WY t.mask - c - 1,?_⟩;unfold SetTable.probe;rw [zV t H h c _ _ (fun m hm=>by rw [<- gT];exact hb m hm) (by omega),<- gT];congr 1;omega
theorem zY {t:VO} {H:Nat->Int} {h:Int} {m0 c:Nat} (hs:t.slot (bN t (m0+c) (t.probeStart h)).j=.empty) (hc:c<10 * WY t.mask)
  (hb:∀c',c'<c->∃i,t.slot (bN t (m0+c') (t.probeStart h)).j=.live i/\(H i == h)=false):t.probe H h (bN t m0 (t.probeStart h))=some (.empty (bN t (m0+c) (t.probeStart h)).j none):=by
 obtain⟨f,e⟩:=Ey hb hc;rw [e,XC,hs];simp only [pB];rfl
theorem C2 {t:VO} {H:Nat->Int} {h:Int} {m0 c i:Nat} (hs:t.slot (bN t (m0+c) (t.probeStart h)).j=.live i) (hc:c<10 * WY t.mask)
  (hb:∀c',c'<c->∃i,t.slot (bN t (m0+c') (t.probeStart h)).j=.live i/\(H i == h)=false) (hi:(H i == h)=true) :
  t.probe H h (bN t m0 (t.probeStart h))=some (.candidate (bN t (m0+c) (t.probeStart h)).j i (bN t (m0+c+1) (t.probeStart h))):=by
 obtain⟨f,e⟩:=Ey hb hc;rw [e,XC,hs];simp only [hi,if_true,zX]
section
variable {prog:Wh} {w:Xg} {A:VZ} {E:U8->Vc->Prop} {s:Vc} {a:VJ} {o:Obj} {es:Array (Int × U8)} {ep:Nat} {t:VO} {x:U8} {h:Int} {eqv:Nat->Bool} {Q:SetFound->Vc->Prop}
theorem xJ (ho:s.heap.get? a=some o) (hd:o.data=.set es ep t) (I:rF t (es.map (·.1))) (C3:(t.mask % 2 == 0)=false)
  (hq:∀i (hi:i<es.size),(es[i]).1=h->Xj A s (es[i]).2 x (eqv i)) (Kp:∀i (hi:i<es.size),∃b,(es[i]).2=.ref b)
  (zZ:t.led=false->∀Q':Bool->Vc->Prop,Q' false s->Vq (model prog w) A (searchCouldBeSeen x ((es.filter (·.1 == h)).toList.map (·.2))) Q' E s)
  {n:Nat} (hn:n<=10 * (t.mask+14))
  (xK:∀m,m<n->∃i,i<t.place.size/\t.slot (bN t m (t.probeStart h)).j=.live i/\¬ (∃hi:i<es.size,(es[i]).1=h/\eqv i=true))
  (hend:(t.slot (bN t n (t.probeStart h)).j=.empty/\Q (.free (bN t n (t.probeStart h)).j false) s)\/((∃i,t.slot (bN t n (t.probeStart h)).j=.live i/\∃hi:i<es.size,(es[i]).1=h/\eqv i=true)/\Q (.there none) s)) :
  ∀(d m0 fuel:Nat) (z6:Option Xb),m0+d=n->d<fuel->z6.getD (t.probeStart h)=bN t m0 (t.probeStart h)->Vq (model prog w) A (setSearchFrom a x h true fuel z6) Q E s:=by
 intro d;induction d using Nat.strongRecOn with
 | ind d ih =>
  intro m0 fuel z6 hm UM jN;obtain⟨fuel,rfl⟩:∃g,fuel=g+1:=⟨fuel - 1,by omega⟩;have hfit:t.fits es.size=true:=by
   have z:=I.sz;have f:=I.fill
   rw [Wd] at z f;simp only [SetTable.fits,aaV,I.tb.nd,Ve,beq_iff_eq,decide_eq_true_eq];exact⟨z,by simp;omega⟩
  unfold setSearchFrom;refine U0 (VV ho hd hfit ?_);dsimp only;have hg:t.gaveWay=false:=C3
  rw [hg];simp only [Vi,if_false];rw [jN];have hsz:t.place.size=es.size:=by have z:=I.sz;rw [Wd] at z;exact z
  have gH:∀i (hi:i<es.size),((es[i]?.map (·.1)).getD 0)=(es[i]).1:=fun i hi=>by simp [hi]
  obtain⟨c,hcd,hP,NU⟩:=first (fun c=>m0+c=n\/∃i,t.slot (bN t (m0+c) (t.probeStart h)).j=.live i/\∃hi:i<es.size,(es[i]).1=h) d (.inl hm)
  have GG:c<10 * WY t.mask:=by unfold WY;omega
  have hb:∀c',c'<c->∃i,t.slot (bN t (m0+c') (t.probeStart h)).j=.live i/\(((es[i]?.map (·.1)).getD 0) == h)=false:=fun c' hc'=>by
   have lU:=NU c' hc';obtain⟨i,h1,h2,_⟩:=xK (m0+c') (by omega);refine⟨i,h2,?_⟩;rw [gH i (by omega)];exact beq_eq_false_iff_ne.mpr fun e=>lU (.inr ⟨i,h2,by omega,e⟩)
  have Kq:(m0+c=n/\t.slot (bN t (m0+c) (t.probeStart h)).j=.empty)\/∃i,∃hi:i<es.size,t.slot (bN t (m0+c) (t.probeStart h)).j=.live i/\(es[i]).1=h:=by
   rcases hP with e|⟨i,h1,hi,h2⟩
   ·rcases hend with⟨z,_⟩|⟨⟨i,z,hi,h1,_⟩,_⟩
    ·exact .inl ⟨e,by rw [e];exact z⟩
    ·exact .inr ⟨i,hi,by rw [e];exact z,h1⟩
   ·exact .inr ⟨i,hi,h1,h2⟩
  rcases Kq with⟨e,hs⟩|⟨i,hi,hs,hh⟩
  ·rw [zY hs GG]
   rotate_left
   ·exact hb
   dsimp only;rcases hend with⟨_,q⟩|⟨⟨i,z,_⟩,_⟩
   ·refine U2 ?_
    rw [e];exact q
   ·rw [<- e,hs] at z;cases z
  ·rw [C2 (i:=i) hs GG]
   case hb=>exact hb
   case hi =>
    show(((es[i]?.map (·.1)).getD 0) == h)=true;rw [gH i hi,hh];simp
   dsimp only;obtain⟨b,yF⟩:=Kp i hi;have ge:es[i]?=some (es[i]):=by simp [hi]
   have tail:Vq (model prog w) A (do
     let some (_,y):=es[i]?|unsupported "internal:set-entry"
     let equal <- holding [y] (eqBool y x)
     let (gf,_,t') <- setState a
     if true && equal then return .there none
     let some same:=t'.sameMemory t.moves t.mask|unsupported "set.changed-during-lookup:is-the-new-block-at-the-old-address"
     let Kr <- match (if same then t'.slot (bN t (m0+c) (t.probeStart h)).j else .empty) with
      | .live i'=>match gf[i']? with
       | some (_,y')=>do pure (if <- isSame y' y then some i' else none)
       | none=>pure none
      | _=>pure none
     match Kr with
     | none=>rule "set.search.anew";setSearchFrom a x h true fuel none
     | some i'=>if equal then return .there (some i') else setSearchFrom a x h true fuel (some (bN t (m0+c+1) (t.probeStart h)))) Q E s:=by
    rw [ge];dsimp only;refine U0 (wpAny_holding (hq i hi hh prog w _ _ ?_));refine U0 (VV ho hd hfit ?_);dsimp only;cases ev:eqv i with
    | true =>
     simp only [Bool.and_self,if_true];refine U2 ?_;rcases hend with⟨z,_⟩|⟨_,q⟩
     ·exfalso
      by_cases en:m0+c=n
      ·rw [<- en,hs] at z;cases z
      ·obtain⟨i',_,h2,h3⟩:=xK (m0+c) (by omega)
       rw [hs] at h2;cases h2;exact h3 ⟨hi,hh,ev⟩
     ·exact q
    | false =>
     simp only [YR,Vi,if_false];have hmem:t.sameMemory t.moves t.mask=some true:=by simp [SetTable.sameMemory]
     rw [hmem];simp only [if_true];rw [hs];simp only [ge,yF];refine U0 (wpAny_isSame_ref_self (U0 (U2 ?_)));simp only [if_true,Vi,if_false];have bQ:m0+c<n:=by
      refine Nat.lt_of_le_of_ne (by omega) fun en=>?_
      rcases hend with⟨z,_⟩|⟨⟨i',z,hi',h1,h2⟩,_⟩
      ·rw [<- en,hs] at z;cases z
      ·rw [<- en,hs] at z
       cases z;rw [ev] at h2;cases h2
     exact ih (n - (m0+c+1)) (by omega) (m0+c+1) fuel _ (by omega) (by omega) rfl
   cases hl:t.led with
   | true =>
    simp only [WW,Vi,if_false];exact tail
   | false =>
    simp only [Xc,if_true];refine U0 (zZ hl _ ?_);simp only [Vi,if_false];exact tail
end
theorem sr (n:Nat):∀(fuel k:Nat),n<2 ^ (k+fuel)->2 ^ k<=8+2 * n->∃k',aaA n fuel (2 ^ k)=2 ^ k'/\n<2 ^ k'/\2 ^ k'<=8+2 * n
 | 0,k,h1,h2=>⟨k,rfl,h1,h2⟩
 | fuel+1,k,h1,h2=>by
  unfold aaA;by_cases h:2 ^ k<=n
  ·rw [if_pos h,<- X0]
   exact sr n fuel (k+1) (by rw [show k+1+fuel=k+(fuel+1) by omega];exact h1) (by rw [X0];omega)
  ·rw [if_neg h]
   exact⟨k,rfl,by omega,h2⟩
theorem above {n:Nat} (h:n<2 ^ 60):∃k,Zs n=2 ^ k/\n<2 ^ k/\2 ^ k<=8+2 * n :=
 sr n 64 3 (VF h (aaD (by decide) (by decide))) (by omega)
theorem rF.plain {t:VO} {hs:Array Int} (I:rF t hs) (b:Bool):rF { t with plain:=b } hs :=
 ⟨⟨I.tb.ri,I.tb.nd⟩,I.sz,I.le,I.fill,I.pw,fun i hi=>by
  obtain⟨n,h1,h2,h3⟩:=I.uQ i hi;have e1:∀m p,bN { t with plain:=b } m p=bN t m p:=fun m p=>gE (t:=t) (t':={ t with plain:=b }) rfl m p
  exact⟨n,h1,by rw [e1];exact h2,fun m hm=>by rw [e1];exact h3 m hm⟩⟩
theorem qB {α β:Type} (f:α->β) (xs:Array α) {p:Nat} (hp:p<=xs.size) (x:α):(VR xs p x).map f=VR (xs.map f) p (f x):=by
 apply Array.ext_getElem?;intro i;rw [Array.getElem?_map,gV xs hp,gV (xs.map f) (by rw [Wd];exact hp)];split
 ·simp
 ·split <;> simp
theorem oL {α:Type} (xs:Array α) {p:Nat} (hp:p<=xs.size) (x:α):(VR xs p x).toList.Perm (x::xs.toList):=by
 unfold VR;rw [Array.toList_append,ZP,aaE,aaE];have e:xs.toList=xs.toList.take p++xs.toList.drop p:=(X1 p _).symm
 have e1:xs.toList.extract 0 p=xs.toList.take p:=by simp [ZF]
 have e2:xs.toList.extract p xs.size=xs.toList.drop p:=by
  rw [ZF];rw [V2];simp
 rw [e1,e2]
 conv=>rhs;rw [e]
 rw [Vw];exact List.perm_middle
noncomputable def SI (l:Bool) (h:Heap) (a:VJ) (es:Array (Int × U8)):Prop :=
 ∃o ep t,h.get? a=some o/\o.ExactSet/\o.data=.set es ep t/\rF t (es.map (·.1))/\es.size * 5<t.mask * 3/\t.mask<=8 * es.size+20/\(t.mask % 2 == 0)=false/\(∀i (hi:i<es.size),∃b,(es[i]).2=.ref b)/\t.led=l/\(1<=es.size->t.plain=false)
theorem rF.fits {t:VO} {es:Array (Int × U8)} (I:rF t (es.map (·.1))):t.fits es.size=true:=by
 have z:=I.sz;have f:=I.fill
 rw [Wd] at z f;simp only [SetTable.fits,aaV,I.tb.nd,Ve,beq_iff_eq,decide_eq_true_eq];exact⟨z,by simp;omega⟩
theorem GZ {m k:Nat} (h:m+1=2 ^ k) (hm:1<=m):(m % 2 == 0)=false:=by
 cases k with
 | zero=>simp at h;omega
 | succ k =>
  rw [X0] at h;have:m % 2=1:=by omega
  rw [this];rfl
theorem wo {h:Heap} {a:VJ} {o:Obj} {es:Array (Int × U8)} {ep:Nat} {t:VO} (ho:h.get? a=some o) (hd:o.data=.set es ep t) (gf:Array (Int × U8)) (t':VO) :
  (h.update a (aaX gf t')).get? a=some { o with data:=.set gf (ep+1) t' }:=by
 have:=Wt (aaX gf t') ho (by rw [putSet_of gf t' hd];rfl);rw [putSet_of gf t' hd] at this;exact this
theorem ik {α:Type}:∀(l:List α),(V5 l.length).filterMap (fun i=>l[i]?)=l
 | []=>rfl
 | a::r=>by
  rw [Vb,aak,aaN];simp only [XF,List.filterMap_map];have e:((fun i=>(a::r)[i]?) ∘ Nat.succ)=fun i=>r[i]?:=by funext i;simp
  rw [e,ik r]
theorem nF (es:Array (Int × U8)):∀(l:List Nat),(∀i∈l,i<es.size)->(l.filterMap (fun i=>es[i]?)).map (·.1)=l.map fun i=>(es.map (·.1)).getD i 0
 | [],_=>rfl
 | i::l,h=>by
  have hi:=h i (by simp);have e:es[i]?=some es[i]:=by simp [hi]
  rw [aaN,e];simp only [Vg];rw [nF es l fun j hj=>h j (by simp [hj])];congr 1;simp [WU,hi]
section
variable {prog:Wh} {w:Xg} {A:VZ} {E:U8->Vc->Prop} {s:Vc} {a:VJ} {es:Array (Int × U8)} {x:U8} {h:Int} {eqv:Nat->Bool} {l:Bool}
theorem z7 {o:Obj} {ep:Nat} {t:VO} {Q:Unit->Vc->Prop} (ho:s.heap.get? a=some o) (hx:o.ExactSet) (hd:o.data=.set es ep t) (I:rF t (es.map (·.1))) (h1:1<=es.size) (hs:es.size<50000) (hr:∀i (hi:i<es.size),∃b,(es[i]).2=.ref b) (hL:t.led=l) (hP:t.plain=false)
  (hQ:∀h' gf,WL a s.heap h'->SI l h' a gf->gf.toList.Perm es.toList->Q () { s with heap:=h' }):Vq (model prog w) A (setRelay a (Xd es.size)) Q E s:=by
 have hg:Xd es.size<=4 * 100000/\Xd es.size=4 * es.size:=by
  unfold Xd;rw [if_neg (by omega)];omega
 obtain⟨k,e1,e2,e3⟩:=above (n:=Xd es.size) (Zm hg.1 (by decide));have hm:Zs (Xd es.size) - 1+1=2 ^ k:=by rw [e1];omega
 obtain⟨t',order,f1,f2,f3,f4,f5,f6⟩:=C1 hm t.finger (t.movedTo (Zs (Xd es.size) - 1)) t.led t.plain (es.map (·.1)) (by rw [Wd,e1];omega);rw [Wd] at f5;unfold setRelay;refine U0 (VV ho hd I.fits ?_);dsimp only;rw [if_neg (by rw [e1,WB];omega)];have NV:t.relaid (es.map (·.1)) (Xd es.size)=some (t',order):=f1
 rw [NV];have JK:(order.filterMap (es[·]?)).toList.Perm es.toList:=by
  rw [aar];have z:=f5.filterMap (fun i=>es[i]?)
  refine z.trans (List.Perm.of_eq ?_);have y:=ik es.toList
  simpa using y
 have hsz:(order.filterMap (es[·]?)).size=es.size:=by
  rw [<- Ws,JK.length_eq,Ws]
 have NW:(order.filterMap (es[·]?)).map (·.1)=order.map fun i=>(es.map (·.1)).getD i 0:=by
  apply Array.toList_inj.mp;rw [aaf,aar,aaf];exact nF es order.toList fun i hi=>V3.mp (f5.mem_iff.mp hi)
 show Vq (model prog w) A ((do
  let gf:=order.filterMap (es[·]?)
  if gf.size != es.size then unsupported "internal:set-table-lost-an-element"
  pure (gf,t')) >>= fun(p:Array (Int × U8) × VO)=>storeSet a p.1 p.2) Q E s
 refine U0 ?_;dsimp only;rw [hsz];simp only [bne_self_eq_false,Vi,if_false];refine U2 (wpAny_storeSet_of ho hd ?_ (by rw [hsz,WB];omega));have I':rF t' ((order.filterMap (es[·]?)).map (·.1)):=by rw [NW];exact f6
 refine hQ _ (order.filterMap (es[·]?)) (Wu _ _ _) ⟨_,_,t',wo ho hd _ _,hx,rfl,I',?_,?_,?_,fun i hi=>?_,f3.trans hL,fun _=>f4.trans hP⟩ JK
 ·rw [hsz,f2,e1];omega
 ·rw [hsz,f2,e1];omega
 ·rw [f2];exact GZ hm (by rw [e1];omega)
 ·have hm:(order.filterMap (es[·]?))[i]∈es.toList:=JK.mem_iff.mp (by rw [Ye];exact ZM hi)
  obtain⟨j,hj,e⟩:=Yf.mp hm;have hj':j<es.size:=by simpa using hj
  obtain⟨b,hb⟩:=hr j hj';refine⟨b,?_⟩;rw [<- e];simpa using hb
theorem G3 {Q:Bool->Vc->Prop} (hS:SI l s.heap a es) (hx:∃b,x=.ref b) (hs:es.size<1000) (hq:∀i (hi:i<es.size),(es[i]).1=h->Xj A s (es[i]).2 x (eqv i))
  (zZ:∀Q':Bool->Vc->Prop,Q' false s->Vq (model prog w) A (searchCouldBeSeen x ((es.filter (·.1 == h)).toList.map (·.2))) Q' E s)
  (SM:∀Q':Bool->Vc->Prop,Q' false s->Vq (model prog w) A (hashByValue 8 x) Q' E s)
  (h1:(∃i,∃hi:i<es.size,(es[i]).1=h/\eqv i=true)->Q false s)
  (h2:(¬ ∃i,∃hi:i<es.size,(es[i]).1=h/\eqv i=true)->∀h' gf,WL a s.heap h'->SI l h' a gf->gf.toList.Perm ((h,x)::es.toList)->Q true { s with heap:=h' }) :
  Vq (model prog w) A (setAddHashed a x h) Q E s:=by
 obtain⟨o,ep,t,ho,hex,hd,I,Ex,UN,C3,hr,hL,hP⟩:=hS;obtain⟨b,rfl⟩:=hx;have hsz:t.place.size=es.size:=by have z:=I.sz;rw [Wd] at z;exact z
 obtain⟨k,hk⟩:=I.pw;obtain⟨n,hn,hend,xK⟩:=way I.tb hk (by omega) h (fun i=>∃hi:i<es.size,(es[i]).1=h/\eqv i=true);have G4:t.slot (bN t n (t.probeStart h)).j=.empty->¬ ∃i,∃hi:i<es.size,(es[i]).1=h/\eqv i=true:=by
  rintro he ⟨i,hi,e1,e2⟩;obtain⟨n',g1,g2,g3⟩:=I.uQ i (by rw [Wd];exact hi);have eh:(es.map (·.1)).getD i 0=h:=by simp [WU,hi,e1]
  rw [eh] at g2 g3;have hl:=gC I.tb (i:=i) (by omega)
  rw [<- g2] at hl;rcases ZT n n' with q|q|q
  ·exact g3 n q he
  ·subst q;rw [he] at hl;cases hl
  ·obtain⟨i',_,w2,w3⟩:=xK n' q
   rw [hl] at w2;cases w2;exact w3 ⟨hi,e1,e2⟩
 unfold setAddHashed;refine wpAny_holding ?_;unfold setAddHashedIn;refine U0 (VV ho hd I.fits ?_);dsimp only;have hsc:byScan (.ref b) es=false:=rfl
 rw [hsc];simp only [Vi,if_false];unfold setSearch;refine U0 (xJ (n:=n) (eqv:=eqv) ho hd I C3 hq hr (fun _=>zZ) hn xK ?_ n 0 100000 none (by omega) (by omega) rfl);rcases hend with he|⟨i,_,hl,hi,e1,e2⟩
 ·refine .inl ⟨he,?_⟩
  dsimp only;refine U0 (VV ho hd I.fits ?_);dsimp only;have hj:(bN t n (t.probeStart h)).j<=t.mask:=uS t n _ (sq t h)
  obtain⟨I1,hp⟩:=qm I (h:=h) (n:=n) (by omega) he hj (fun m hm=>by obtain⟨i,_,z,_⟩:=xK m hm;rw [z];intro q;cases q) (by rw [Wd];omega);rw [Wd] at hp;rw [<- qB (·.1) es hp (h,W5 b)] at I1;have z8:=oL es hp (h,W5 b)
  have qy:(VR es (t.put (bN t n (t.probeStart h)).j).2 (h,W5 b)).size=es.size+1:=cN es hp _;have Qx:∀i (hi:i<(VR es (t.put (bN t n (t.probeStart h)).j).2 (h,W5 b)).size),∃b',((VR es (t.put (bN t n (t.probeStart h)).j).2 (h,W5 b))[i]).2=.ref b':=fun i hi=>by
   have hm:(VR es (t.put (bN t n (t.probeStart h)).j).2 (h,W5 b))[i]∈(h,W5 b)::es.toList:=z8.mem_iff.mp (by rw [Ye];exact ZM hi);rcases Vn.mp hm with e|e
   ·exact⟨b,by rw [e]⟩
   ·obtain⟨j,hj,e⟩:=Yf.mp e
    have hj':j<es.size:=by simpa using hj
    obtain⟨b',hb'⟩:=hr j hj';refine⟨b',?_⟩;rw [<- e];simpa using hb'
  have lU:=G4 he;generalize SN:VR es (t.put (bN t n (t.probeStart h)).j).2 (h,W5 b)=Ez at *
  have tail:∀t2:VO,rF t2 (Ez.map (·.1))->t2.mask=t.mask->t2.led=l->t2.plain=false->Vq (model prog w) A (do
    storeSet a Ez t2
    if (!false && t2.tooFull)=true then setRelay a (Xd (es.size+1))
    return true) Q E s:=fun t2 I2 GW kY xH=>by
   refine U0 (wpAny_storeSet_of ho hd ?_ (by rw [qy,WB];omega));have hg:=wo ho hd Ez t2
   by_cases hf:t2.tooFull=true
   ·simp only [hf,Xc,Bool.and_self,if_true]
    refine U0 ?_;rw [<- qy];refine z7 (s:={ s with heap:=s.heap.update a (aaX Ez t2) }) hg hex rfl I2 (by omega) (by omega) Qx kY xH fun h' gf Eh hS' hp'=>U2 ?_
    exact h2 lU h' gf ((Wu s.heap a (aaX Ez t2)).trans Eh) hS' (hp'.trans z8)
   ·have hf':t2.tooFull=false:=by simpa using hf
    simp only [hf',Xc,YR,Vi,if_false];refine U2 ?_;have hnf:Ez.size * 5<t2.mask * 3:=by
     have z:¬ (t2.fill * 5≥t2.mask * 3):=by simpa [SetTable.tooFull] using hf'
     have y:t2.fill=Ez.size:=by
      have q:=I2.sz;rw [Wd] at q;simp only [aaV,I2.tb.nd];simp [q]
     omega
    exact h2 lU _ Ez (Wu _ _ _) ⟨_,_,t2,hg,hex,rfl,I2,hnf,by omega,by rw [GW];exact C3,Qx,kY,fun _=>xH⟩ z8
  cases hpl:(t.put (bN t n (t.probeStart h)).j).1.plain with
  | false =>
   simp only [Vi,if_false];refine U0 (U2 ?_);simp only [if_true];exact tail _ I1 rfl hL hpl
  | true =>
   simp only [if_true];refine U0 (SM _ ?_);simp only [Vi,if_false];exact tail _ (I1.plain false) rfl hL rfl
 ·refine .inr ⟨⟨i,hl,hi,e1,e2⟩,?_⟩
  exact U2 (h1 ⟨i,hi,e1,e2⟩)
end
end cg
namespace PySem
theorem typeCall_set_1 (v:U8):checkTypeCall "set" ⟨[v],[]⟩=pure ():=by kernel_rfl
theorem newCall_set_1 (v:U8):checkBuiltinCall "set.__new__" ⟨[.type "set",v],[]⟩=pure ():=by kernel_rfl
theorem sub_list_set:isSubtype (.type "list") (.type "set")=pure false:=by rw [isSubtype_type];kernel_rfl
theorem sub_list_frozenset:isSubtype (.type "list") (.type "frozenset")=pure false:=by rw [isSubtype_type];kernel_rfl
section
variable {prog:Wh} {w:Xg} {A:VZ} {E:U8->Vc->Prop} {s:Vc}
theorem oM {v:U8} {Q₁:U8->Vc->Prop}
  (h:Q₁ (.ref s.heap.objs.size) { s with heap:=s.heap.push { cls:=.type "set",dict:=none,data:=.set #[] 0 (.fresh 0 0 (!w.params.followText "set-order")) } }) :
  codeAny (model prog w) A (.call (.builtin "set.__new__") ⟨[.type "set",v],[]⟩) (wants Q₁ E) s:=by
 refine codeAny_of_tree ?_;show Vq _ A.in1 (do checkBuiltinCall "set.__new__" ⟨[.type "set",v],[]⟩;again (.builtin "set.__new__" ⟨[.type "set",v],[]⟩)) _ _ s
 refine U0 (wpAny_of_eq (newCall_set_1 v) (U2 ⟨plainId_quiet F.plain_set_new _,codeAny_builtin F.entry_set_new ?_⟩));rw [Wl F.plain_set_new _];unfold Builtin.«set.__new__» Builtin.Frozenset.newClass;have CZ:=sub_set_self
 obtain⟨hp,g,d,tk,os⟩:=s;dsimp only
 wp_walk
 refine wpAny_askSetting (U2 ?_);dsimp only;simp only [newObj];refine U0 (wpAny_alloc (U2 ?_));exact U2 h
theorem mj {M:Model} {self v:U8} {Q:Unit->Vc->Prop} (hT:s.TypeIs self "set") (hQ:Q () s) :
  Vq M A (checkBuiltinCall "set.__init__" ⟨[self,v],[]⟩) Q E s:=by
 simp only [checkBuiltinCall,kind_set_init,split_set_init,sig_set_init];refine U0 (wpAny_isInstance hT sub_set_self ?_);simp only [WW,Vi,if_false];unfold Bind.checkArgs;dsimp only;refine U0 (m:=Bind.printed "set" true _ _) (PyProof.Rows.printed_name (by decide) ?_);refine U0 (m:=Bind.printed "*" false _ _) (PyProof.Rows.printed_star (self:=self) rfl hT fun short=>?_);have SO:(aas == aat)=false:=by decide
 have hn:(if (aas == aat)=true then [self,v].length else [self,v].length - 1)=1:=by simp [SO]
 rw [hn];simp only [V7];have hc:Bind.check ⟨.positional,"set","*",.self,[⟨"iterable",.posOnly,false⟩]⟩ "set" short 1 []=pure ():=by
  have hp:(Zj == Zj)=true:=by decide
  simp [Bind.check,Bind.checkCount,Bind.isPositional,hp]
 rw [hc];exact U2 hQ
set_option maxHeartbeats 1000000 in
theorem uT {l:VJ} {items:Array U8} {Q:U8->Vc->Prop} (hl:s.heap.IsList l items)
  {led:Bool} (NY:led = !w.params.followText "set-order") (h:codeAny (model prog w) A.in1.in1 (.builtin "set.update.loop" ⟨[.ref s.heap.objs.size,.ref (s.heap.objs.size+1)],[]⟩) (wants (fun _ s'=>Q (.ref s.heap.objs.size) s') E)
   { s with heap:=(s.heap.push { cls:=.type "set",dict:=none,data:=.set #[] 0 (.fresh 0 0 led) }).push { cls:=.type "list_iterator",data:=.fields #[.ref l,.int 0 0] } }) :
  Vq (model prog w) A (call (.type "set") [.ref l]) Q E s:=by
 obtain⟨c,tl,SQ⟩:=X2.mro;have hmade:=X2.made
 have CZ:=X2.sub;refine wpAny_call (codeAny_of_tree ?_);show Vq _ _ (callAny (.type "set") _) _ _ _
 refine U2 ⟨Code.quiet_builtin _ (by decide +kernel),codeAny_builtin F.entry_type_call ?_⟩;rw [Around.under_plain (weight_type_call_type "set" [.ref l] []) rfl];have h1:=X2.notType
 have h2:=X2.canCreate;have GG:=typeCall_set_1 (.ref l)
 repeat (any_goals (first|assumption|wp_step))
 refine codeAny_mono (oM (E:=E) (Q₁:=fun obj s₁=>obj=.ref s.heap.objs.size/\s₁={ s with heap:=s.heap.push { cls:=.type "set",dict:=none,data:=.set #[] 0 (.fresh 0 0 led) } }) ⟨rfl,by rw [NY]⟩) fun r s₁ hr=>?_
 cases r with
 | error e=>exact hr
 | ok fl =>
  cases fl with
  | ret obj =>
   obtain⟨rfl,rfl⟩:=hr;have hS:(s.heap.push { cls:=.type "set",dict:=none,data:=.set #[] 0 (.fresh 0 0 led) }).get? s.heap.objs.size=some { cls:=.type "set",dict:=none,data:=.set #[] 0 (.fresh 0 0 led) }:=U9 _ rfl
   have hT:Y9 { s with heap:=s.heap.push { cls:=.type "set",dict:=none,data:=.set #[] 0 (.fresh 0 0 led) } } (.ref s.heap.objs.size) "set":=⟨_,hS,rfl⟩;have UO:=X2.init.lookup
   have UP:=X2.init.bind (.ref s.heap.objs.size)
   repeat (any_goals (first|assumption|wp_step))
   refine codeAny_mono (codeAny_call_builtin (R:=wants (fun r s₂=>r=.none/\Q (.ref s.heap.objs.size) s₂) E) X2.init.plain F.entry_set_init (mj hT ?_)) fun r₂ s₂ NZ=>?_
   ·unfold Builtin.«set.__init__» noKeywords
    have hl':(s.heap.push { cls:=.type "set",dict:=none,data:=.set #[] 0 (.fresh 0 0 led) }).IsList l items:=by obtain⟨o,ho,r⟩:=hl;exact⟨o,U1 _ ho,r⟩
    have UQ:Y9 { s with heap:=s.heap.push { cls:=.type "set",dict:=none,data:=.set #[] 0 (.fresh 0 0 led) } } (.ref l) "list":=hl'.typeIs;have UR:=sub_list_set
    have tU:=sub_list_frozenset;have Nv:∀{A':VZ} {Q':U8->Vc->Prop} {E':U8->Vc->Prop},Q' (.ref (s.heap.objs.size+1)) { s with heap:=(s.heap.push { cls:=.type "set",dict:=none,data:=.set #[] 0 (.fresh 0 0 led) }).push { cls:=.type "list_iterator",data:=.fields #[.ref l,.int 0 0] } } ->
      Vq (model prog w) A' (pyIter (.ref l)) Q' E' { s with heap:=s.heap.push { cls:=.type "set",dict:=none,data:=.set #[] 0 (.fresh 0 0 led) } }:=fun {A' Q' E'} hq=>by
     have e:(s.heap.push { cls:=.type "set",dict:=none,data:=.set #[] 0 (.fresh 0 0 led) }).objs.size=s.heap.objs.size+1:=Wi _ _;refine wpAny_pyIter_list (s:={ s with heap:=s.heap.push { cls:=.type "set",dict:=none,data:=.set #[] 0 (.fresh 0 0 led) } }) hl' ?_;show Q' (.ref (s.heap.push _).objs.size) _
     rw [e];exact hq
    wp_walk using Nv
    refine codeAny_mono h fun r3 s3 N1=>?_
    cases r3 with
    | error e=>exact N1
    | ok f3 =>
     cases f3 with
     | ret v3=>exact U2 (U2 ⟨rfl,N1⟩)
     | _=>exact N1.elim
   ·cases r₂ with
    | error e=>exact NZ
    | ok SR =>
     cases SR with
     | ret r =>
      obtain⟨rfl,hq⟩:=NZ
      repeat (any_goals (first|assumption|wp_step))
     | _=>exact NZ.elim
  | _=>exact hr.elim
end
end PySem
namespace PySem.F
theorem br:Slot "set_iterator" "__next__" "set_iterator.__next__" :=
 .of (owner:="set_iterator") (n:="__next__") (by rw [typeLookup_type,builtinLookup_eq_fast];kernel_rfl) (by decide +kernel) (by decide +kernel) (by decide +kernel)
  (by first|exact .inl (by decide +kernel)|exact .inr (by decide +kernel)) (by rw [isSubtype_type];kernel_rfl)
theorem il:entryFor table "set_iterator.__next__"=some Builtin.«set_iterator.__next__»:=entryFor_of_tree (by kernel_rfl)
theorem iE (a:U8):argsOk "set_iterator.__next__" ⟨[a],[]⟩:=by unfold argsOk;kernel_rfl
theorem iF:Slot "set_iterator" "__iter__" "set_iterator.__iter__" :=
 .of (owner:="set_iterator") (n:="__iter__") (by rw [typeLookup_type,builtinLookup_eq_fast];kernel_rfl) (by decide +kernel) (by decide +kernel) (by decide +kernel)
  (by first|exact .inl (by decide +kernel)|exact .inr (by decide +kernel)) (by rw [isSubtype_type];kernel_rfl)
theorem mq:entryFor table "set_iterator.__iter__"=some Builtin.«dict_keyiterator.__iter__» :=
 entryFor_alias (id':="dict_keyiterator.__iter__") (by kernel_rfl) rfl (by decide +kernel) (by kernel_rfl)
theorem nG (a:U8):argsOk "set_iterator.__iter__" ⟨[a],[]⟩:=by unfold argsOk;kernel_rfl
theorem mr:entryFor table "set.__iter__"=some Builtin.«frozenset.__iter__» :=
 entryFor_alias (id':="frozenset.__iter__") (by kernel_rfl) rfl (by decide +kernel) (by kernel_rfl)
end PySem.F
namespace cg
open PySem
theorem nH {α:Type} {l:List α} {i:Nat} (h:i<l.length):(l[i]::l.eraseIdx i).Perm l:=by
 rw [List.eraseIdx_eq_take_drop_succ];have e:l=l.take i++l[i]::l.drop (i+1):=by rw [List.getElem_cons_drop,X1]
 conv=>rhs;rw [e]
 exact List.perm_middle.symm
theorem wq {α:Type} (next:Nat->Nat):∀(n k:Nat) (left:List α) (out:Array α),left.length=n->(pickOrder.go next n k left out).toList.Perm (out.toList++left)
 | 0,k,left,out,h=>by
  have:left=[]:=Z6.mp h;subst this;rw [VA];exact .refl _
 | n+1,k,left,out,h=>by
  have hi:next k % left.length<left.length:=YN _ (by omega)
  unfold pickOrder.go;rw [Ge9 hi];dsimp only;refine(wq next n (k+1) _ _ (by rw [Zk hi];omega)).trans ?_;rw [ZP,Vw];exact(nH hi).append_left _
theorem pC {α:Type} (next:Nat->Nat) (xs:Array α):(pickOrder next xs).toList.Perm xs.toList:=by
 have z:=wq next xs.size 0 xs.toList #[] (by simp)
 simpa [pickOrder] using z
section
variable {M:Model} {A:VZ} {E:U8->Vc->Prop} {s:Vc}
theorem xM {src:Source} {n:Nat} {Q:Nat->Vc->Prop} (hn:n≠0) (h:∀k dr,k<n->Q k { s with drawn:=dr }):Vq M A (choose src n) Q E s :=
 fun _ _ _=>⟨hn,h _ _ (YN _ (Nat.pos_of_ne_zero hn))⟩
theorem wt {α:Type}:∀(n:Nat) (xs:List α) (s:Vc) (Q:List α->Vc->Prop),xs.length=n->(∀l dr,l.Perm xs->Q l { s with drawn:=dr })->Vq M A (drawOrder n xs) Q E s
 | 0,xs,s,Q,h,hQ=>by
  have:xs=[]:=Z6.mp h;subst this;exact U2 (hQ [] s.drawn (.refl _))
 | n+1,[],s,Q,h,hQ=>by cases h
 | n+1,x::xs,s,Q,h,hQ=>by
  unfold drawOrder;refine U0 (xM (by simp) fun k dr hk=>?_);rw [Ge9 hk];dsimp only;refine U0 (wt n _ _ _ (by rw [Zk hk];omega) fun l SU hp=>U2 ?_);exact hQ _ SU ((hp.cons _).trans (nH hk))
end
noncomputable def fo (h:Heap) (I a:VJ) (first:U8) (i n ep:Nat):Prop:=∃o,h.get? I=some o/\o.cls=.type "set_iterator"/\o.data=.fields #[first,.int i 0,.ref a,.int n 0,.int ep 0]
noncomputable def dh (h:Heap) (a:VJ) (es:Array (Int × U8)) (ep:Nat) (t:VO):Prop:=∃o,h.get? a=some o/\o.cls=.type "set"/\o.data=.set es ep t
noncomputable def Way (w:Xg) (h:Heap) (a:VJ) (es:Array (Int × U8)) (ep:Nat) (t:VO) (pl:List Nat) (T:VJ) (ord:List U8) (i:Nat) (first:U8):Prop :=
 (w.params.followText "set-order"=true/\first=.int 0 0/\ord=(pickOrder (w.params.setOrder a ep) es).toList.map (·.2)) \/
 (w.params.followText "set-order"=false/\first=.ref T/\h.IsTuple T (pl.map fun(j:Nat)=>aa5 j 0).toArray/\pl.Perm (V5 es.size)/\ord=pl.map fun j=>(es.getD j (0,.none)).2) \/
 (w.params.followText "set-order"=false/\t.led=true/\es.size<=1/\ord=es.toList.map (·.2)/\((i=0/\first=.int 0 0)\/(i=1/\∃k:Nat,first=.int k 0/\∀j,j<t.place.size->t.place.getD j 0<k)))
section
variable {prog:Wh} {w:Xg} {A:VZ} {E:U8->Vc->Prop} {s:Vc} {I a T:VJ} {first:U8} {i ep:Nat} {es:Array (Int × U8)} {t:VO} {pl:List Nat} {ord:List U8}
theorem fo.typeIs {h:Heap} {n:Nat} (x:fo s.heap I a first i n ep):s.TypeIs (.ref I) "set_iterator":=let ⟨o,ho,hc,_⟩:=x;⟨o,ho,hc⟩
theorem jz {Q:Array (Int × U8)->Vc->Prop} (hS:dh s.heap a es ep t) (hf:t.fits es.size=true) (h:Q es s):Vq (model prog w) A (setEntries a) Q E s:=by
 obtain⟨o,ho,_,hd⟩:=hS;unfold setEntries;exact U0 (VV ho hd hf (U2 h))
theorem dJ {Q:Bool->Vc->Prop} (h:Q (w.params.followText "set-order") s):Vq (model prog w) A setsByText Q E s:=by
 unfold setsByText;exact U0 (wpAny_askSetting (U2 h))
theorem qC (W:Way w s.heap a es ep t pl T ord i first):ord.length=es.size:=by
 rcases W with⟨_,_,e⟩|⟨_,_,_,p,e⟩|⟨_,_,_,e,_⟩
 ·rw [e,Lm9,(pC _ es).length_eq,Ws]
 ·rw [e,Lm9,p.length_eq,Ya]
 ·rw [e,Lm9,Ws]
theorem range_getD (es:Array (Int × U8)):∀n,n<=es.size->(V5 n).map (fun j=>(es.getD j (0,.none)).2)=(es.toList.take n).map (·.2):=fun n hn=>by
 apply WJ (by simp;omega);intro j h1 h2;have hj:j<es.size:=by simp at h1;omega
 simp [hj]
theorem z9 (W:Way w s.heap a es ep t pl T ord i first):ord.Perm (es.toList.map (·.2)):=by
 rcases W with⟨_,_,e⟩|⟨_,_,_,p,e⟩|⟨_,_,_,e,_⟩
 ·rw [e];exact(pC _ es).map _
 ·rw [e]
  have z:=p.map (fun j=>(es.getD j (0,Wr)).2);rw [range_getD es es.size (Vm _),V2 (by simp)] at z;exact z
 ·rw [e]
theorem G5 {h:Heap} {n:Nat} (x:fo h I a first i n ep):fo (h.update I (Z7 (·.setIfInBounds 1 (rawInt ((i:Int)+1))))) I a first (i+1) n ep:=by
 obtain⟨o,ho,hc,hd⟩:=x;exact⟨_,Wt _ ho (YX (Xn hd _)),(ZS ..).trans hc,by rw [Xn hd];simp [rawInt]⟩
theorem G6 {h:Heap} {n:Nat} {f:U8} (x:fo h I a first i n ep):fo (h.update I (Z7 (·.setIfInBounds 0 f))) I a f i n ep:=by
 obtain⟨o,ho,hc,hd⟩:=x;exact⟨_,Wt _ ho (YX (Xn hd _)),(ZS ..).trans hc,by rw [Xn hd];simp⟩
theorem G7 {n:Nat} {Q:Unit->Vc->Prop} (x:fo s.heap I a first i n ep) (h:Q () { s with heap:=s.heap.update I (Z7 (·.setIfInBounds 1 (rawInt ((i:Int)+1)))) }):Vq (model prog w) A (setField (.ref I) 1 (rawInt ((i:Int)+1))) Q E s:=by
 obtain⟨o,ho,hc,hd⟩:=x;exact wpAny_setField ho hd (by simp) h
theorem G8 {n:Nat} {f:U8} {Q:Unit->Vc->Prop} (x:fo s.heap I a first i n ep) (h:Q () { s with heap:=s.heap.update I (Z7 (·.setIfInBounds 0 f)) }):Vq (model prog w) A (setField (.ref I) 0 f) Q E s:=by
 obtain⟨o,ho,hc,hd⟩:=x;exact wpAny_setField ho hd (by simp) h
set_option maxHeartbeats 1000000 in
theorem next_item {Q:Option U8->Vc->Prop} (su:rF t (es.map (·.1))) (Ks:I≠T) (hIa:I≠a) (hit:fo s.heap I a first i es.size ep) (hS:dh s.heap a es ep t) (W:Way w s.heap a es ep t pl T ord i first) (hi:i<es.size)
  (hQ:∀v h' Aa,ord[i]?=some v->fo h' I a Aa (i+1) es.size ep->Way w h' a es ep t pl T ord (i+1) Aa->WL I s.heap h'->Q (some v) { s with heap:=h' }):Vq (model prog w) A (pyNext (.ref I)) Q E s:=by
 obtain⟨o,ho,hc,hd⟩:=id hit;have hf:=su.fits
 have qo:=qC W;unfold pyNext;refine U0 (wpAny_attempt (wpAny_callSpecial?_slot (name:=WC "__next__") (fo.typeIs (h:=s.heap) hit) F.br
  (wpAny_call_entry F.br (fo.typeIs (h:=s.heap) hit) F.il ?_ (F.iE _))))
 unfold Builtin.«set_iterator.__next__»;refine U0 (wpAny_of_eq (a:=(W5 I,[])) rfl ?_);dsimp only;refine U0 (wpAny_fieldsOf ho hd ?_);dsimp only;refine U0 (jz hS hf ?_);rw [if_neg (by simp)];rcases id W with⟨hT,rfl,e⟩|⟨hT,rfl,hp,pp,e⟩|⟨hT,hl,h1,e,hw⟩
 ·dsimp only
  unfold setNext;obtain⟨oa,wu,_,tX⟩:=id hS;refine U0 (U0 (VV wu tX hf ?_));dsimp only;refine U0 (dJ ?_);rw [hT];simp only [if_true,Xz,bne_self_eq_false,Vi,if_false];unfold setWalk;refine U0 (U0 (VV wu tX hf ?_));dsimp only;refine U0 (dJ ?_);rw [hT];simp only [if_true];refine U0 (wpAny_askSetting (U2 ?_));refine U2 ?_;have Qy:i<ord.length:=by omega
  have hx:(pickOrder (w.params.setOrder a ep) es)[i]?.map (·.2)=some ord[i]:=by
   rw [<- YV,<- Vs,<- e,Ge9 Qy]
  obtain⟨y,hy,SV⟩:=Vj.mp hx;have hy':(pickOrder ({ program:=(model prog w).prog,params:=(model prog w).w.params:Setting }.params.setOrder a ep) es)[i]?=some y:=hy
  rw [hy'];dsimp only [Option.map];refine U0 (G8 hit ?_);have h0:=G6 (f:=rawInt ((aa6 0:Nat):Int)) hit
  refine U0 (G7 (s:={ s with heap:=_ }) h0 ?_);refine U2 ⟨_,rfl,U2 (hQ _ _ _ (by rw [Ge9 Qy,SV]) (G5 h0) (.inl ⟨hT,rfl,e⟩) ((Wu ..).trans (Wu ..)))⟩
 ·dsimp only
  obtain⟨oT,Kt,_,nT,N2⟩:=id hp;refine U0 (wpAny_seqItems Kt N2 ?_);dsimp only;have hpl:i<pl.length:=by rw [pp.length_eq,Ya];exact hi
  have hj:pl[i]<es.size:=V3.mp (pp.mem_iff.mp (Vp hpl));have hx:(pl.map fun(j:Nat)=>aa5 j 0).toArray[((i:Nat):Int).toNat]?=some (aa5 (pl[i]:Nat) 0):=by simp [hpl]
  rw [hx];dsimp only;refine U0 ?_;unfold setNextDrawn;obtain⟨oa,wu,_,tX⟩:=id hS;refine U0 (VV wu tX hf ?_);dsimp only;simp only [Xz,bne_self_eq_false,Vi,if_false,Vf hj];refine U2 ?_;refine U0 (G7 hit ?_);refine U2 ⟨_,rfl,U2 (hQ _ _ _ ?_ (G5 hit) (.inr (.inl ⟨hT,rfl,⟨oT,(VL _ _ Ks).trans Kt,?_⟩,pp,e⟩)) (Wu ..))⟩
  ·subst e
   simp [hpl,hj]
  ·obtain⟨US,Ku,r⟩:=hp
   rw [Kt] at Ku;cases Ku;exact r
 ·have SW:i=0:=by omega
  subst SW;rcases hw with⟨_,rfl⟩|⟨z,_⟩
  ·dsimp only
   unfold setNext;obtain⟨oa,wu,_,tX⟩:=id hS;refine U0 (U0 (VV wu tX hf ?_));dsimp only;refine U0 (dJ ?_);rw [hT];have CL:t.place.size=es.size:=by have z:=su.sz;rw [Wd] at z;exact z
   have hb:V4 t.place (aa6 0)=0:=by
    have z:=gS t.place su.tb.ri (aa6 0);rcases Nat.eq_zero_or_pos (V4 t.place (aa6 0)) with q|q
    ·exact q
    ·exact absurd (z.2.1 0 q) (Nat.not_lt_zero _)
   refine wpAny_ite_split (fun hab=>absurd hab (by decide)) fun _=>?_
   refine wpAny_ite_split (fun hab=>absurd hab (show ¬ ((!t.plain && decide (es.size > 1))=true) from by simp;omega)) fun _=>?_
   refine U0 (show Vq (model prog w) A.in1 (if (!t.led && !es.isEmpty)=true then unsupported "set:maker-not-led" else pure ()) _ _ s from ?_);rw [hl];refine wpAny_ite_split (fun hab=>absurd hab (by simp)) fun _=>?_
   refine U2 (U2 ?_);rw [hb,Vf (by omega),Vf (by omega)];dsimp only;refine U0 (G8 hit ?_);have h0:=G6 (f:=rawInt ((t.place[0]'(by omega)+1:Nat):Int)) hit
   refine U0 (G7 (s:={ s with heap:=_ }) h0 ?_);refine U2 ⟨_,rfl,U2 (hQ _ _ _ ?_ (G5 h0) (.inr (.inr ⟨hT,hl,h1,e,.inr ⟨rfl,_,rfl,fun j hj=>?_⟩⟩)) ((Wu ..).trans (Wu ..)))⟩
   ·subst e
    simp [hi]
   ·have:j=0:=by omega
    subst this;simp [hj]
  ·cases z
set_option maxHeartbeats 1000000 in
theorem next_end {Q:Option U8->Vc->Prop} (hh:A.handled=none) (su:rF t (es.map (·.1))) (hit:fo s.heap I a first es.size es.size ep) (hS:dh s.heap a es ep t) (W:Way w s.heap a es ep t pl T ord es.size first)
  (hQ:∀h',Heap.ExtBut I s.heap h'->Q none { s with heap:=h' }):Vq (model prog w) A (pyNext (.ref I)) Q E s:=by
 obtain⟨o,ho,hc,hd⟩:=id hit;have hf:=su.fits
 have qo:=qC W;have fin:∀(h1:Heap) (f:U8),fo h1 I a f es.size es.size ep->Heap.ExtBut I s.heap h1->Vq (model prog w) A.in1 (do
   setField (W5 I) 2 Wr
   let e <- newExc (ZV "StopIteration") []
   raiseNew e:Sem PySem.Fin) (fun fin s'=>∃v,fin=PySem.Fin.done (Flow.ret v)/\Vq (model prog w) A (pure (some v)) Q E s') (fun e s'=>Vq (model prog w) A (do
     let b <- isInstance e (ZV "StopIteration")
     if b=true then pure none else throw e) Q E s') { s with heap:=h1 }:=fun h1 f SX hex=>by
  obtain⟨o1,MH,SY,S3⟩:=SX;refine U0 (wpAny_setField (s:={ s with heap:=h1 }) MH S3 (by simp) ?_);refine U0 ?_;simp only [newExc,newTuple];refine U0 (wpAny_newObj_type ?_ (by size_fits));refine U0 (m:=firstArgMember _ _) (wpAny_of_eq (a:=Wr) (by first|rfl|(simp only [firstArgMember];rfl)) ?_);refine wpAny_newObj_type ?_ (by size_fits);simp only [raiseNew];refine U0 (wpAny_handled ?_);rw [show A.in1.handled=none from hh];refine U0 (U2 (wpAny_throw ?_));refine U0 (wpAny_isInstance (T:="StopIteration") (b:=true) ⟨_,U9 _ rfl,rfl⟩ isSubtype_stop ?_);refine U2 (hQ _ fun b ob hb N3=>?_);exact U1 _ (U1 _ ((VL _ _ (WA hb)).trans (hex b ob hb N3)))
 unfold pyNext;refine U0 (wpAny_attempt (wpAny_callSpecial?_slot (name:=WC "__next__") (fo.typeIs (h:=s.heap) hit) F.br
  (wpAny_call_entry F.br (fo.typeIs (h:=s.heap) hit) F.il ?_ (F.iE _))))
 unfold Builtin.«set_iterator.__next__»;refine U0 (wpAny_of_eq (a:=(W5 I,[])) rfl ?_);dsimp only;refine U0 (wpAny_fieldsOf ho hd ?_);dsimp only;refine U0 (jz hS hf ?_);rw [if_neg (by simp)];rcases id W with⟨hT,rfl,e⟩|⟨hT,rfl,hp,pp,e⟩|⟨hT,hl,h1,e,hw⟩
 ·dsimp only
  unfold setNext;obtain⟨oa,wu,_,tX⟩:=id hS;refine U0 (U0 (VV wu tX hf ?_));dsimp only;refine U0 (dJ ?_);rw [hT];simp only [if_true,Xz,bne_self_eq_false,Vi,if_false];unfold setWalk;refine U0 (U0 (VV wu tX hf ?_));dsimp only;refine U0 (dJ ?_);rw [hT];simp only [if_true];refine U0 (wpAny_askSetting (U2 ?_));refine U2 ?_;have hy:(pickOrder (w.params.setOrder a ep) es)[es.size]?=none:=by
   rw [Zl];rw [e,Lm9,Ws] at qo;omega
  have hy':(pickOrder ({ program:=(model prog w).prog,params:=(model prog w).w.params:Setting }.params.setOrder a ep) es)[es.size]?=none:=hy;rw [hy'];exact fin s.heap _ hit fun _ _ _ z=>z
 ·dsimp only
  obtain⟨oT,Kt,_,nT,N2⟩:=id hp;refine U0 (wpAny_seqItems Kt N2 ?_);dsimp only;have hpl:pl.length=es.size:=by rw [pp.length_eq,Ya]
  have hx:(pl.map fun(j:Nat)=>aa5 j 0).toArray[((es.size:Nat):Int).toNat]?=none:=by simp [hpl]
  rw [hx];dsimp only;refine U0 (G8 hit ?_);exact fin _ _ (G6 hit) fun b ob hb N3=>(VL _ _ (WA hb)).trans N3
 ·have CL:t.place.size=es.size:=by have z:=su.sz;rw [Wd] at z;exact z
  have hk:∃k:Nat,first=.int k 0/\es.size<=V4 t.place k:=by
   rcases hw with⟨z,rfl⟩|⟨z,k,rfl,hk⟩
   ·exact⟨0,rfl,by omega⟩
   ·refine⟨k,rfl,?_⟩
    have q:=gS t.place su.tb.ri k;rcases aax (V4 t.place k) es.size with y|y
    ·have:=q.2.2 (V4 t.place k) (Vm _) (by omega)
     have:=hk (V4 t.place k) (by omega);omega
    ·exact y
  obtain⟨k,rfl,hb⟩:=hk;dsimp only;unfold setNext;obtain⟨oa,wu,_,tX⟩:=id hS;refine U0 (U0 (VV wu tX hf ?_));dsimp only;refine U0 (dJ ?_);rw [hT];refine wpAny_ite_split (fun hab=>absurd hab (by decide)) fun _=>?_
  refine wpAny_ite_split (fun hab=>absurd hab (show ¬ ((!t.plain && decide (es.size > 1))=true) from by simp;omega)) fun _=>?_
  refine U0 (show Vq (model prog w) A.in1 (if (!t.led && !es.isEmpty)=true then unsupported "set:maker-not-led" else pure ()) _ _ s from ?_);rw [hl];refine wpAny_ite_split (fun hab=>absurd hab (by simp)) fun _=>?_
  refine U2 (U2 ?_);rw [Xz,Zl.mpr hb];exact fin s.heap _ hit fun _ _ _ z=>z
theorem C4 {n:Nat} {Q:U8->Vc->Prop} (hit:fo s.heap I a first i n ep) (h:Q (.ref I) s):Vq (model prog w) A (pyIter (.ref I)) Q E s:=by
 refine wpAny_pyIter_slot (fo.typeIs (h:=s.heap) hit) F.iF (wpAny_call_entry F.iF (fo.typeIs (h:=s.heap) hit) F.mq ?_ (F.nG _));show Vq _ _ (ret (.ref I)) _ _ s
 exact U2 ⟨_,rfl,"set_iterator",_,fo.typeIs (h:=s.heap) hit,F.br.lookup,h⟩
theorem xN (hh:A.handled=none) (su:rF t (es.map (·.1))) (Ks:I≠T) (hIa:I≠a) :
  Walks prog w A I [I,a,T] [I] es.size (fun i v=>ord[i]?=some v) (fun i h=>∃first,fo h I a first i es.size ep/\dh h a es ep t/\Way w h a es ep t pl T ord i first) where
 sub:=fun b hb=>by simp at hb;simp [hb]
 frame:=fun i h h' ⟨first,⟨o,ho,r⟩,⟨o2,IW,r2⟩,W⟩ hk=>⟨first,⟨o,hk I (by simp) o ho,r⟩,⟨o2,hk a (by simp) o2 IW,r2⟩,by
  rcases W with z|⟨z1,z2,⟨o3,S4,r3⟩,z4⟩|z
  ·exact .inl z
  ·exact .inr (.inl ⟨z1,z2,⟨o3,hk T (by simp) o3 S4,r3⟩,z4⟩)
  ·exact .inr (.inr z)⟩
 item:=fun i s Q E hi ⟨first,hit,hS,W⟩ hQ=>next_item su Ks hIa hit hS W hi fun v h' f' hv hit' W' sb=>by
  obtain⟨o2,IW,r2⟩:=hS;exact hQ v h' s.toks hv ⟨f',hit',⟨o2,(sb.2 a (WA hIa)).trans IW,r2⟩,W'⟩ fun b o hb ho=>(sb.2 b (by simpa using hb)).trans ho
 done:=fun s Q E ⟨first,hit,hS,W⟩ hQ=>next_end hh su hit hS W fun h' hx=>hQ h' s.toks fun b o hb ho=>hx b o (by simpa using hb) ho
 self:=fun i s Q E ⟨first,hit,hS,W⟩ h=>C4 hit h
end
section
variable {prog:Wh} {w:Xg} {A:VZ} {E:U8->Vc->Prop} {s:Vc} {a:VJ} {ep:Nat} {es:Array (Int × U8)} {t:VO}
theorem dh.push {h:Heap} (x:dh h a es ep t) (o:Obj):dh (h.push o) a es ep t:=let ⟨o',ho,r⟩:=x;⟨o',U1 _ ho,r⟩
set_option maxHeartbeats 1000000 in
theorem C5 {Q:U8->Vc->Prop} (su:rF t (es.map (·.1))) (hS:dh s.heap a es ep t) (hl:t.led = !w.params.followText "set-order") (hp:1<=es.size->t.plain=false) (hsz:es.size<1000)
  (hQ:∀I T first pl ord h' dr,s.heap.objs.size<=I->s.heap.objs.size<=T->I≠T->(∀b o,s.heap.get? b=some o->h'.get? b=some o)->fo h' I a first 0 es.size ep->dh h' a es ep t->Way w h' a es ep t pl T ord 0 first->Q (.ref I) { s with heap:=h',drawn:=dr }) :
  Vq (model prog w) A (pyIter (.ref a)) Q E s:=by
 obtain⟨o,ho,hc,hd⟩:=id hS;have hT:s.TypeIs (.ref a) "set":=⟨o,ho,hc⟩
 have hf:=su.fits;refine wpAny_pyIter_slot hT F.slot_set_iter (wpAny_call_entry F.slot_set_iter hT F.mr ?_ (F.args_set_iter_1 _));unfold Builtin.«frozenset.__iter__»;refine U0 (wpAny_of_eq (a:=a) rfl ?_);dsimp only;refine U0 (m:=Builtin.Frozenset.sizeOf a) (show Vq _ _ (setEntries a >>= fun es=>pure es.size) _ _ _ from U0 (jz hS hf (U2 ?_)));refine U0 (m:=setDrawn a) (show Vq _ _ (setState a >>= fun q=>setsByText >>= fun b=>pure (!b && (!q.2.2.plain && decide (q.1.size > 1)))) _ _ _ from U0 (VV ho hd hf (U0 (dJ (U2 ?_)))));have Qz:∀{A':VZ} {E':U8->Vc->Prop} {s':Vc} {Q':Nat->Vc->Prop},dh s'.heap a es ep t->Q' ep s'->Vq (model prog w) A' (setEpoch a) Q' E' s':=fun {A' E' s' Q'} ⟨o',ho',_,hd'⟩ q=>by
  unfold setEpoch;exact U0 (VV ho' hd' hf (U2 q))
 by_cases hdr:(!w.params.followText "set-order" && (!t.plain && decide (es.size > 1)))=true
 ·rw [if_pos hdr]
  have h1:w.params.followText "set-order"=false:=by simpa using (Bool.and_eq_true_iff.mp hdr).1
  refine U0 (wt _ _ _ _ (Ya) fun l dr hp=>?_);have kY:l.length=es.size:=by rw [hp.length_eq,Ya]
  refine U0 (wpAny_newObj_type (T:="tuple") (data:=.seq (l.map fun(i:Nat)=>rawInt i).toArray) ?_ (by show(l.map fun(i:Nat)=>rawInt i).toArray.size<=Vz;simp only [Ww,Lm9];rw [WB];omega));refine U0 (Qz (dh.push hS _) ?_);refine U0 (wpAny_newObj_type ?_ (by size_fits));refine U2 ⟨_,rfl,"set_iterator",_,⟨_,U9 _ rfl,rfl⟩,F.br.lookup,?_⟩;have e1:∀o,(s.heap.push o).objs.size=s.heap.objs.size+1:=fun o=>Wi _ _
  refine hQ _ s.heap.objs.size (.ref s.heap.objs.size) l _ _ dr (by rw [e1];omega) (Vm _) (by rw [e1];omega) (fun b o q=>U1 _ (U1 _ q)) ⟨_,U9 _ rfl,rfl,rfl⟩ (dh.push (dh.push hS _) _) (.inr (.inl ⟨h1,rfl,⟨_,U1 _ (U9 _ rfl),rfl,0,rfl⟩,hp,rfl⟩))
 ·rw [if_neg hdr]
  refine U0 (U2 ?_);refine U0 (Qz hS ?_);refine U0 (wpAny_newObj_type ?_ (by size_fits));refine U2 ⟨_,rfl,"set_iterator",_,⟨_,U9 _ rfl,rfl⟩,F.br.lookup,?_⟩;cases h1:w.params.followText "set-order" with
  | true=>exact hQ s.heap.objs.size (s.heap.objs.size+1) (.int 0 0) [] _ _ s.drawn (Vm _) (by omega) (by omega) (fun b o q=>U1 _ q) ⟨_,U9 _ rfl,rfl,rfl⟩ (dh.push hS _) (.inl ⟨h1,rfl,rfl⟩)
  | false =>
   rw [h1] at hl hdr;refine hQ s.heap.objs.size (s.heap.objs.size+1) (.int 0 0) [] _ _ s.drawn (Vm _) (by omega) (by omega) (fun b o q=>U1 _ q) ⟨_,U9 _ rfl,rfl,rfl⟩ (dh.push hS _) (.inr (.inr ⟨h1,hl,?_,rfl,.inl ⟨rfl,rfl⟩⟩));rcases aax 1 es.size with q|q
   ·exfalso
    apply hdr;rw [hp (by omega)];simp [q]
   ·exact q
end
end cg
namespace cg
open PySem PySem.W PyProof.Rows
section
variable {prog:Wh} {w:Xg} {A:VZ} {E:U8->Vc->Prop} {s:Vc} {a:VJ} {ep:Nat} {es:Array (Int × U8)} {t:VO}
theorem Ab {Q:Bool->Vc->Prop} (hT:s.TypeIs (.ref a) "set") (h:Q false s):Vq (model prog w) A (Ze (.ref a)) Q E s:=by
 unfold Ze;refine U0 (wpAny_specialOf hT PySem.F.slot_set_len.lookup ?_);generalize oz:("set.__len__":String)=S5
 wp_delta
 rw [show splitId S5=some ("set","__len__") from by subst oz;decide +kernel];subst oz;refine U0 (wpAny_isInstance (T:="set") (b:=true) hT (by rw [isSubtype_type];kernel_rfl) ?_);refine wpAny_ite_split (fun hab=>absurd hab (by decide)) (fun _=>?_);refine wpAny_ite_split (fun _=>?_) (fun hab=>absurd (by decide +kernel) hab);refine U0 (wpAny_typeOf hT ?_);exact U2 h
theorem Ac {ord:List U8} {acc:Array U8} (h:ItemsOf (fun i v=>ord[i]?=some v) acc ord.length):acc.toList=ord:=by
 apply ZH fun j=>?_
 rcases aax j acc.size with hj|hj
 ·have e:acc[j]?=some acc[j]:=Vf hj
  rw [h.2 j _ e,YV,e]
 ·rw [W2 (by simpa using hj),W2 (by have:=h.1;omega)]
theorem uU {R:Result->Vc->Prop} (hh:A.handled=none) (su:rF t (es.map (·.1))) (hA:dh s.heap a es ep t) (hl:t.led = !w.params.followText "set-order") (hp:1<=es.size->t.plain=false) (hsz:es.size<1000)
  (S:VJ) (QA:S≠a) (res:U8) (c₀:Nat) (hS:s.heap.get? S=some { cls:=.type "list",data:=.seq #[] c₀ })
  (hR:∀h' tk dr eH c',(∀b o,b≠S->s.heap.get? b=some o->h'.get? b=some o)->h'.get? S=some { cls:=.type "list",dict:=none,data:=.seq eH c',slots:=#[] }->eH.toList.Perm (es.toList.map (·.2))->R (.ok (.ret res)) { s with heap:=h',toks:=tk,drawn:=dr }) :
  Vq (model prog w) A.in1 (X3 (.ref S) (.ref a) res)
   (fun fin s'=>match fin with|.done f=>R (.ok f) s'|.again c'=>c'.quiet=true/\codeAny (model prog w) A c' R s') (fun e s'=>R (.error e) s') s:=by
 have hn:es.size<=Vz:=by rw [WB];omega
 have Kv:s.TypeIs (.ref a) "set":=let ⟨o,ho,hc,_⟩:=hA;⟨o,ho,hc⟩
 unfold X3;refine U0 (wpAny_typeOf (T:="set") Kv ?_);have h1:ZW (.ref S) (.ref a)=false:=by simp [ZW,QA]
 have h2:(ZV "set" == ZV "list")=false:=by decide
 have h3:(ZV "set" == ZV "tuple")=false:=by decide
 simp only [h1,h2,h3,Bool.or_false,Vi,if_false];refine U0 (C5 su hA hl hp hsz fun I T first pl ord h1 dr hI hT Ks kp hit N4 W=>?_);have QB:=Vu hS
 have N5:S≠I:=VB (VF QB hI);have S6:S≠T:=VB (VF QB hT)
 have hIa:I≠a:=by
  obtain⟨o,ho,_⟩:=hA;exact We (VF (Vu ho) hI)
 have QC:=xN (prog:=prog) (A:=A.in1) (w:=w) (ep:=ep) (pl:=pl) (ord:=ord) (T:=T) hh su Ks hIa;have qo:=qC (s:={ s with heap:=h1 }) W
 have N6:=z9 (s:={ s with heap:=h1 }) W;have hS1:=kp S _ hS
 have QD:S∉[I,a,T]:=by simp only [Vn,WR,or_false,not_or];exact⟨N5,QA,S6⟩
 have key:∀(h:Heap) (c₁ tk:Nat),(∃first,fo h I a first 0 es.size ep/\dh h a es ep t/\Way w h a es ep t pl T ord 0 first)->(∀b o,b≠S->s.heap.get? b=some o->h.get? b=some o) ->
   h.get? S=some { cls:=.type "list",data:=.seq #[] c₁ }->codeAny (model prog w) A (.builtin "list.extend.loop" ⟨[.ref S,.ref I,res],[]⟩) R { s with heap:=h,toks:=tk,drawn:=dr }:=by
  intro h c₁ tk jN hk N7;refine codeAny_extend_loopS QC.toS hn S QD res es.size 0 _ #[] c₁ rfl (VK _) jN N7 (ItemsOf.nil _) fun s' eH c' hm hS' nv=>?_
  rw [Moved.eq_with hm];refine hR s'.heap s'.toks dr eH c' (fun b o hb e=>hm.heap b o (fun hmem=>?_) (hk b o hb e)) hS' ?_
  ·rcases Vn.mp hmem with e'|hmem
   ·exact hb e'
   ·exact absurd (Vu e) (by rw [Vx.mp hmem];exact Nat.not_lt.mpr hI)
  ·rw [<- qo] at nv
   rw [Ac nv];exact N6
 refine U0 (wpAny_holding (Ab (s:={ s with heap:=h1,drawn:=dr }) (let ⟨o,ho,hc,_⟩:=N4;⟨o,ho,hc⟩) ?_));refine wpAny_ite_split (fun _=>?_) (fun _=>U2 ⟨plainId_quiet ZG _,key _ c₀ s.toks ⟨first,hit,N4,W⟩ (fun b o _ e=>kp b o e) hS1⟩);refine U0 (wpAny_rule ?_);refine U0 ?_;show Vq _ _ (updateSeq S (·.push .none) >>= fun _=>updateSeq S (·.pop)) _ _ _
 refine U0 (wpAny_updateSeq (s:={ s with heap:=h1,drawn:=dr }) hS1 rfl ?_);have QE:=Wt (Wx (·.push Wr)) hS1 rfl
 refine wpAny_updateSeq (s:={ s with heap:=h1.update S (Wx (·.push Wr)),drawn:=dr }) (hz:=by seq_fits) QE rfl ?_;have S7:=Wt (Wx (·.pop)) QE rfl
 refine U2 ⟨plainId_quiet ZG _,key _ _ s.toks ?_ (fun b o hb e=>?_) S7⟩
 ·refine QC.frame 0 _ _ ⟨first,hit,N4,W⟩ fun b hb o e=>?_
  have QF:b≠S:=fun h=>QD (h ▸ hb)
  exact(VL _ _ (WA QF)).trans ((VL _ _ (WA QF)).trans e)
 ·exact(VL _ _ (WA hb)).trans ((VL _ _ (WA hb)).trans (kp b o e))
theorem sx {R:List U8->Vc->Prop} {ld:Bool} (hh:A.handled=none) (hS:SI ld s.heap a es) (hl:ld = !w.params.followText "set-order") (hsz:es.size<1000)
  (h:∀h' tk dr acc,(∀b o,s.heap.get? b=some o->h'.get? b=some o)->acc.Perm (es.toList.map (·.2))->R acc { s with heap:=h',toks:=tk,drawn:=dr }):Vq (model prog w) A (collect (.ref a)) R E s:=by
 obtain⟨oa,ep,t,wu,hex,tX,su,_,_,_,_,hL,hP⟩:=hS;have hA:dh s.heap a es ep t:=⟨oa,wu,hex.1,tX⟩
 unfold collect;refine U0 (wpAny_runValue (codeAny_builtin entry_proto_collect' ?_));rw [Wl PySem.F.plain_proto_collect _];show Vq _ A.in1 (newList [] >>= fun l=>again (.builtin "list.__iadd__" ⟨[l,.ref a],[]⟩)) _ _ s
 refine U0 (wpAny_newObj_type ?_);refine U2 ⟨plainId_quiet Z8 _,codeAny_builtin entry_list_iadd' ?_⟩;rw [Wl Z8 _];have N7:(s.heap.push { cls:=.type "list",data:=.seq ([]:List U8).toArray }).get? s.heap.objs.size=some { cls:=.type "list",data:=.seq #[] }:=U9 _ rfl
 show Vq _ A.in1 (X3 (.ref s.heap.objs.size) (.ref a) (.ref s.heap.objs.size)) _ _ _;have key:=uU (A:=A) (w:=w) (prog:=prog) (s:={ s with heap:=s.heap.push { cls:=.type "list",data:=.seq ([]:List U8).toArray } })
  (R:=fun(q:Result) (s':Vc)=>∃(h':Heap) (tk:Nat) (dr:_) (eH:Array U8) (c':Nat),q=.ok (.ret (.ref s.heap.objs.size))/\s'={ s with heap:=h',toks:=tk,drawn:=dr } /\
   (∀b o,s.heap.get? b=some o->h'.get? b=some o)/\h'.get? s.heap.objs.size=some { cls:=.type "list",dict:=none,data:=.seq eH c',slots:=#[] }/\eH.toList.Perm (es.toList.map (·.2)))
  hh su (dh.push hA _) (hL.trans hl) hP hsz s.heap.objs.size (We (Vu wu)) (.ref s.heap.objs.size) 0 N7
  (fun h' tk dr eH c' hk hS' nv=>⟨h',tk,dr,eH,c',rfl,rfl,fun b o e=>hk b o (VB (Vu e)) (U1 _ e),hS',nv⟩)
 refine wpAny_mono key (fun fin s' x=>?_) fun e s' x=>?_
 ·cases fin with
  | done f =>
   obtain⟨h',tk,dr,eH,c',e,rfl,hk,hS',nv⟩:=x;cases e;show Vq _ A (load s.heap.objs.size >>= _) _ _ _
   refine U0 (wpAny_load hS' ?_);exact U2 (h h' tk dr _ hk nv)
  | again c₁ =>
   refine⟨x.1,codeAny_mono x.2 fun q s₂ y=>?_⟩;obtain⟨h',tk,dr,eH,c',rfl,rfl,hk,hS',nv⟩:=y;show Vq _ A (load s.heap.objs.size >>= _) _ _ _
   refine U0 (wpAny_load hS' ?_);exact U2 (h h' tk dr _ hk nv)
 ·obtain⟨_,_,_,_,_,e',_⟩:=x
  cases e'
end
end cg
namespace M
open PySem PySem.Spec PyProof.Rows L2 cg
section
variable {P:Wh} {w:Xg} {A:VZ} {E:U8->Vc->Prop}
theorem cP.Ad:∀(n m:Nat) {A:VZ} {E:U8->Vc->Prop} {s:Vc} {t:T} {u:U8},kd n t=true->n<=m->cP s.heap t u->Vq (model P w) A (ofAClassStatement m u) (fun b s'=>b=false/\s'=s) E s
 | 0,_,_,_,_,t,_,hk,_,_=>(Gy hk).elim
 | n+1,m,A,E,s,t,u,hk,hm,k=>by
  cases k with
  | int i t=>cases m with
   | zero=>omega
   | succ m=>exact U2 ⟨rfl,rfl⟩
  | str z t=>cases m with
   | zero=>omega
   | succ m=>exact U2 ⟨rfl,rfl⟩
  | tup ho hc hd hl hi =>
   rename_i a o its nn xs;have Kv:s.TypeIs (.ref a) "tuple":=⟨o,ho,hc⟩
   obtain⟨m,rfl⟩:∃k,m=k+1:=⟨m - 1,by omega⟩;unfold ofAClassStatement;refine U0 (wpAny_typeOf Kv ?_);dsimp only;simp only [beq_self_eq_true,if_true];refine U0 (U2 ?_);simp only [WW,Vi,if_false];refine U0 (wpAny_seqItems ho hd ?_);dsimp only;refine U0 ?_;show Vq _ _ (forIn its _ _) _ _ s
   rw [<- YA];refine wpAny_forIn_list _ (fun rest r s'=>r.1=none/\s'=s/\∀v∈rest,v∈its) _ ?_ ?_ _ _ ⟨rfl,rfl,fun v hv=>by simpa using hv⟩
   ·rintro v rest r s' ⟨hr,rfl,hall⟩
    obtain⟨i,x8,rfl⟩:=W6 (hall v U4);have ex:=Ge9 (l:=xs) (i:=i) (by omega)
    refine U0 (wpAny_mono (cP.Ad n m (ie hk ex) (by omega) (hi i _ _ ex (Vf x8))) (fun b Cz hb=>?_) fun _ _ e=>e);obtain⟨rfl,rfl⟩:=hb;simp only [Vi,if_false];exact U2 ⟨rfl,rfl,fun u iA=>hall u (U5 _ iA)⟩
   ·rintro⟨r1,r2⟩ s' ⟨hr,rfl,_⟩
    simp only at hr;subst hr;exact U2 ⟨rfl,rfl⟩
theorem cP.Kw {s:Vc} {t:T} {u:U8} {Q:Bool->Vc->Prop} (hh:rD t=true) (k:cP s.heap t u) (q:Q false s):Vq (model P w) A (hashByValue 8 u) Q E s:=by
 unfold rD at hh;split at hh
 ·rename_i z r
  cases k with
  | tup ho hc hd hl hi =>
   rename_i a o its nn;have Kv:s.TypeIs (.ref a) "tuple":=⟨o,ho,hc⟩
   unfold hashByValue;refine U0 (wpAny_specialOf Kv XO.lookup ?_);show Vq _ _ (seqItems? (.ref a) >>= _) _ _ s
   refine U0 (wpAny_seqItems ho hd ?_);refine U0 ?_;have xC:0<its.size:=by simp at hl;omega
   have k0:=hi 0 (.str z) its[0] rfl (Vf xC);obtain⟨l⟩:=its;cases l with
   | nil=>simp at xC
   | cons v vs =>
    have k0:cP s.heap (.str z) v:=k0;cases k0;show Vq _ _ (forIn (YU _ _::vs).toArray _ _) _ _ s
    rw [<- YA];simp only [XW];exact U0 (U0 (U2 (by simp only [Xc,if_true];exact U2 (U2 (U2 q)))))
 ·cases hh
theorem cP.seen {n:Nat} (hn:n<=8) {s:Vc} {t:T} {u:U8} {Q:Bool->Vc->Prop} (hk:kd n t=true) (k:cP s.heap t u) :
  ∀(stored:List U8),(∀v∈stored,∃b,kd n b=true/\cP s.heap b v)->Q false s->Vq (model P w) A (searchCouldBeSeen u stored) Q E s:=by
 intro stored jN q;unfold searchCouldBeSeen;refine U0 ?_;refine wpAny_forIn_list _ (fun rest rr s'=>s'=s/\rr.1=none/\∀v∈rest,v∈stored) _ ?_ ?_ _ _ ⟨rfl,rfl,fun v hv=>hv⟩
 ·rintro v rest rr s' ⟨rfl,hr,hm⟩
  obtain⟨b,hb,k2⟩:=jN v (hm v (by simp));dsimp only;split;all_goals split
  any_goals exact U2 ⟨rfl,rfl,fun z hz=>hm z (by simp [hz])⟩
  all_goals
   refine U0 (wpAny_mono (cP.quiet n 8 hk hn k) (fun b Cz hb=>?_) fun _ _ e=>e);obtain⟨rfl,rfl⟩:=hb;simp only [WW,Vi,if_false];refine U0 (wpAny_mono (cP.quiet n 8 hb hn k2) (fun b Cz hb=>?_) fun _ _ e=>e);obtain⟨rfl,rfl⟩:=hb;simp only [WW,Vi,if_false];refine U0 (wpAny_mono (cP.Ad n 8 hk hn k) (fun b Cz hb=>?_) fun _ _ e=>e);obtain⟨rfl,rfl⟩:=hb;simp only [Vi,if_false];refine U0 (wpAny_mono (cP.Ad n 8 hb hn k2) (fun b Cz hb=>?_) fun _ _ e=>e);obtain⟨rfl,rfl⟩:=hb;simp only [Vi,if_false];exact U2 ⟨rfl,rfl,fun z hz=>hm z (by simp [hz])⟩
 ·rintro⟨r1,r2⟩ s' ⟨rfl,hr,_⟩
  simp only at hr;subst hr;exact U2 q
end
noncomputable def I9 (w:Xg) (g:G) (es:List (Int × U8)) (tr:List T):Prop:=Paired (fun(e:Int × U8) (t:T)=>e.1=hT w t/\kd 6 t=true/\RT g none t e.2) es tr
theorem lW {α β:Type} {F:α->β->Prop} {l l':List α} (p:l'.Perm l):∀{m:List β},Paired F l m->∃m',m'.Perm m/\Paired F l' m':=by
 induction p with
 | nil=>intro m h;exact⟨m,.refl _,h⟩
 | cons x _ ih =>
  intro m h;cases h with
  | cons r t=>obtain⟨m',h1,h2⟩:=ih t;exact⟨_::m',h1.cons _,.cons r h2⟩
 | swap x y l =>
  intro m h;cases h with
  | cons r t=>cases t with
   | cons r2 t2=>exact⟨_,.swap _ _ _,.cons r2 (.cons r t2)⟩
 | trans _ _ N8 N9 =>
  intro m h;obtain⟨m1,a1,a2⟩:=N9 h;obtain⟨m2,b1,b2⟩:=N8 a2;exact⟨m2,b1.trans a1,b2⟩
theorem C6 {l:Bool} {h h':Heap} {a b:VJ} {es:Array (Int × U8)} (S:cg.SI l h a es) (hs:WL b h h') (hab:a≠b):cg.SI l h' a es:=by
 obtain⟨o,ep,t,ho,r⟩:=S;exact⟨o,ep,t,(hs.2 a hab).trans ho,r⟩
theorem pD:entryFor table "set.update.loop"=some Builtin.«set.update.loop»:=entryFor_of_tree (by kernel_rfl)
theorem lB:plainId "set.update.loop"=true:=by decide +kernel
theorem Ae {h:Heap} {a:VJ} {ld:Bool} (e:h.get? a=some { cls:=.type "set",dict:=none,data:=.set #[] 0 (.fresh 0 0 ld) }):cg.SI ld h a #[] :=
 ⟨_,0,.fresh 0 0 ld,e,⟨rfl,rfl,rfl⟩,rfl,⟨⟨fun i j _ hj=>absurd hj (by simp [Ym]),rfl⟩,by simp [Ym],fun i hi=>absurd hi (by simp [Ym]),by simp,⟨3,rfl⟩,fun i hi=>absurd hi (by simp)⟩,by simp [Ym],by simp [Ym],by simp [Ym],fun i hi=>absurd hi (by simp),rfl,fun z=>absurd z (by simp)⟩
section
variable {X:Cx} {pins:bf} {φ:Fr} {g:G} {L L':aa} {s:Vc} {a it l:VJ} {es:Array (Int × U8)} {tr ts:List T} {its:List U8} {t:T} {u:U8} {ld:Bool}
theorem Oa {A:VZ} {E:U8->Vc->Prop} {Q:Bool->Vc->Prop} (I:Inv X pins φ g L s) (hu:A.units+10<cLine) (hS:cg.SI ld s.heap a es) (hE:I9 X.w g es.toList tr) (hs:es.size<1000) (hd:tr.Nodup) (hk:kd 6 t=true) (hh:rD t=true) (r:RT g none t u)
  (hQ:∀b h' tk gf yf,WL a s.heap h'\/h'=s.heap->cg.SI ld h' a gf->I9 X.w g gf.toList yf->yf.Nodup->yf.length<=tr.length+1->(∀x,x∈yf↔x=t\/x∈tr)->Q b { s with heap:=h',toks:=tk }):Vq (model X.prog X.w) A (setAdd a u) Q E s:=by
 classical
 have hl:=Vr hE;have hl':es.size=tr.length:=by simpa using hl
 have k:=I.Gz 6 hk r;unfold setAdd;refine wpAny_holding (U0 ?_);refine cP.hash 6 hk (by omega) k ?_;generalize s.toks+dr t=tk;have I':Inv X pins φ g L { s with toks:=tk }:=I.tok tk
 have k':=I'.Gz 6 hk r;have at_:∀i (hi:i<es.size),(es[i]).1=hT X.w (tr[i]'(by omega))/\kd 6 (tr[i]'(by omega))=true/\RT g none (tr[i]'(by omega)) (es[i]).2:=fun i hi=>by
  have z:=xk hE i _ _ (Ge9 (by simpa using hi)) (Ge9 (by omega));simpa using z
 refine G3 (s:={ s with toks:=tk }) (eqv:=fun i=>decide (tr.getD i (.int 0)=t)) hS ?_ hs (fun i hi _=>?_) (fun Q' q=>cP.seen (n:=6) (by omega) hk k' _ (fun v hv=>?_) q) (fun Q' q=>cP.Kw hh k' q) (fun hex=>?_) fun lU h' gf Eh hS' hp=>?_
 ·unfold rD at hh
  split at hh
  ·cases r with
   | tup=>exact⟨_,rfl⟩
  ·cases hh
 ·obtain⟨_,h2,h3⟩:=at_ i hi
  have e:tr.getD i (.int 0)=tr[i]'(by omega):=by simp [show i<tr.length by omega]
  show Xj A _ _ _ (decide (tr.getD i (.int 0)=t));rw [e];exact cP.eq 6 h2 hk (by omega) (I'.Gz 6 h2 h3) k'
 ·obtain⟨e,he,rfl⟩:=U6.mp hv
  rw [Ye] at he;have he:=(Array.mem_filter.mp he).1
  obtain⟨i,hi,rfl⟩:=W6 he;obtain⟨_,h2,h3⟩:=at_ i hi
  exact⟨_,h2,I'.Gz 6 h2 h3⟩
 ·obtain⟨i,hi,e1,e2⟩:=hex
  have e:tr.getD i (.int 0)=tr[i]'(by omega):=by simp [show i<tr.length by omega]
  have e2:=of_decide_eq_true e2;rw [e] at e2;refine hQ false s.heap tk es tr (.inr rfl) hS hE hd (Xe _) fun x=>⟨.inr,fun z=>?_⟩
  rcases z with rfl|z
  ·rw [<- e2];exact Vp _
  ·exact z
 ·have hE':I9 X.w g ((hT X.w t,u)::es.toList) (t::tr):=.cons ⟨rfl,hk,r⟩ hE
  obtain⟨yf,p1,p2⟩:=lW hp hE';have Ob:t∉tr:=fun hb=>by
   obtain⟨i,hi,e⟩:=Yf.mp hb;have hi':i<es.size:=by omega
   refine lU ⟨i,hi',?_,?_⟩
   ·rw [(at_ i hi').1,e]
   ·exact decide_eq_true (by simp [hi,e])
  exact hQ true h' tk gf yf (.inl Eh) hS' p2 (p1.nodup_iff.mpr (VW.mpr ⟨Ob,hd⟩)) (Yt p1.length_eq) fun x=>by rw [p1.mem_iff,Vn]
theorem Af {A:VZ} {R:Result->Vc->Prop} (I:Inv X pins φ g L s) (hu:A.units+12<cLine) (hh:A.handled=none) (hl:s.heap.IsList l its.toArray) (rv:cG g ts its) (hlen:its.length<900) (S8:∀t∈ts,kd 6 t=true/\rD t=true)
  (ha:s.heap.objs.size<=a) (Oc:s.heap.objs.size<=it) (hne:a≠it)
  (fin:∀h' tk es tr,(∀b o,s.heap.get? b=some o->h'.get? b=some o)->cg.SI ld h' a es->I9 X.w g es.toList tr->tr.Nodup->(∀x,x∈tr↔x∈ts)->R (.ok (.ret .none)) { s with heap:=h',toks:=tk }) :
  ∀(k i:Nat) (h':Heap) (tk:Nat) (es:Array (Int × U8)) (tr:List T),its.length - i=k->i<=its.length->(∀b o,s.heap.get? b=some o->h'.get? b=some o)->h'.IsListIter it l i->cg.SI ld h' a es->I9 X.w g es.toList tr->tr.Nodup->tr.length<=i->(∀x,x∈tr↔x∈ts.take i) ->
   Vq (model X.prog X.w) A.in1 (Builtin.«set.update.loop» ⟨[.ref a,.ref it],[]⟩) (fun fin s'=>match fin with|.done f=>R (.ok f) s'|.again c'=>c'.quiet=true/\codeAny (model X.prog X.w) A c' R s') (fun e s'=>R (.error e) s') { s with heap:=h',toks:=tk }:=by
 have qw:=Vr rv;have lt:∀b o,s.heap.get? b=some o->b≠a/\b≠it:=fun b o q =>
  ⟨VB (VF (Vu q) ha),VB (VF (Vu q) Oc)⟩
 obtain⟨ol,qo,QG⟩:=id hl;intro k;induction k with
 | zero =>
  intro i h' tk es tr hk hi kp hit hS hE hd hn hp;obtain rfl:i=its.length:=by omega
  unfold Builtin.«set.update.loop»;dsimp only;refine U0 (wpAny_pyNext_list_end (s:={ s with heap:=h',toks:=tk }) (A:=A.in1) hh hit (show h'.IsList l its.toArray from⟨ol,kp _ _ qo,QG⟩) (by simp) fun h2 Kx=>?_);dsimp only;refine U2 ?_;refine fin h2 tk es tr (fun b o q=>Kx b o (lt b o q).2 (kp b o q)) ?_ hE hd (by rw [<- qw,List.take_length] at hp;exact hp);obtain⟨o,ep,t,ho,r⟩:=hS;exact⟨o,ep,t,Kx a o hne ho,r⟩
 | succ k ih =>
  intro i h' tk es tr hk hi kp hit hS hE hd hn hp;have x8:i<its.length:=by omega
  have yE:i<ts.length:=by omega
  unfold Builtin.«set.update.loop»;dsimp only;refine U0 (wpAny_pyNext_list_item (s:={ s with heap:=h',toks:=tk }) (x:=its[i]) hit (show h'.IsList l its.toArray from⟨ol,kp _ _ qo,QG⟩) (by simp [x8]) fun h1 EA Eh=>?_);dsimp only;have Od:∀b o,s.heap.get? b=some o->h1.get? b=some o:=fun b o q=>(Eh.2 b (lt b o q).2).trans (kp b o q)
  have I1:Inv X pins φ g L { s with heap:=h1,toks:=tk }:=I.kept Od;have hS1:cg.SI ld h1 a es:=C6 hS Eh hne
  have ht:=S8 _ (Vp yE);have Ky:es.size<1000:=by
   have z1:=Vr hE;have z4:es.toList.length=es.size:=by simp
   omega
  refine U0 (wpAny_holding (Oa (s:={ s with heap:=h1,toks:=tk }) I1 (by show A.units+1+10<cLine;omega) hS1 hE Ky hd ht.1 ht.2 (xk rv i _ _ (Ge9 yE) (Ge9 x8)) fun bb h2 Kz gf yf QH hS2 S9 hd2 xn xH=>?_));have Oe:∀b o,s.heap.get? b=some o->h2.get? b=some o:=fun b o q=>by
   rcases QH with G9|rfl
   ·exact(G9.2 b (lt b o q).1).trans (Od b o q)
   ·exact Od b o q
  have Of:h2.IsListIter it l (i+1):=by
   rcases QH with G9|rfl
   ·obtain⟨o,ho,r⟩:=EA
    exact⟨o,(G9.2 it (WA hne)).trans ho,r⟩
   ·exact EA
  refine U2 ?_;refine⟨plainId_quiet lB _,codeAny_builtin pD ?_⟩;rw [Wl lB _];have hmem:∀x,x∈yf↔x∈ts.take (i+1):=fun x=>by
   rw [xH,List.take_succ_eq_append_getElem yE,Vd,Vx,hp,or_comm]
  exact ih (i+1) h2 Kz gf yf (by omega) (by omega) Oe Of hS2 S9 hd2 (by omega) hmem
theorem mO {x:T}:∀{l:List T},x∈rZ l↔x∈l
 | []=>Iff.rfl
 | y::l=>by
  unfold rZ;split
  ·rename_i h
   rw [mO,Vn];exact⟨.inr,fun z=>z.elim (fun e=>by rw [e];exact h) id⟩
  ·rw [Vn,Vn,mO]
theorem uV:∀l:List T,(rZ l).Nodup
 | []=>.nil
 | y::l=>by
  unfold rZ;split
  ·exact uV l
  ·rename_i h
   exact VW.mpr ⟨fun z=>h (mO.mp z),uV l⟩
theorem wx:∀l:List T,(rZ l).length<=l.length
 | []=>Vm _
 | y::l=>by
  have:=wx l;unfold rZ;split <;> simp <;> omega
theorem sy {α:Type}:∀{a b:List α},a.Nodup->b.Nodup->(∀x,x∈a↔x∈b)->a.Perm b:=fun ha hb h=>(Xh ha hb).mpr h
theorem Inv.Ta (I:Inv X pins φ g L s) (dr:_):Inv X pins φ g L { s with drawn:=dr }:=⟨I.ok,I.os,I.bare,I.base,I.loc,I.cell,I.free,I.rI,I.pin,I.hok,I.len,I.rel,I.gB,I.gm,I.gw⟩
theorem wy:∀{es:List (Int × U8)} {tr:List T},I9 w' g es tr->cG g tr (es.map (·.2))
 | _,_,.nil=>.nil
 | _,_,.cons h t=>.cons h.2.2 (wy t)
theorem sA:∀{us:List U8} {tr:List T},cG g tr us->Paired (fun u t=>RT g none t u) us tr
 | _,_,.nil=>.nil
 | _,_,.cons h t=>.cons h (sA t)
theorem sC:∀{us:List U8} {tr:List T},Paired (fun u t=>RT g none t u) us tr->cG g tr us
 | _,_,.nil=>.nil
 | _,_,.cons h t=>.cons h (sC t)
theorem uW {a b:List T} (h:cJ b) (hl:a.length<=b.length) (hm:∀x∈a,x∈b):cJ a:=by
 obtain⟨h1,h2,h3,h4⟩:=h;refine⟨by omega,U7.mpr fun x hx=>U7.mp h2 x (hm x hx),?_,U7.mpr fun x hx=>U7.mpr fun y hy=>U7.mp (U7.mp h4 x (hm x hx)) y (hm y hy)⟩;rcases h3 with h3|h3
 ·exact .inl (U7.mpr fun x hx=>U7.mp h3 x (hm x hx))
 ·exact .inr (U7.mpr fun x hx=>U7.mp h3 x (hm x hx))
theorem Og {x y:T} (hx:kd 8 x=true) (hy:kd 8 y=true) (h:ltN 8 y x=false):x=y\/ltN 8 x y=true:=by
 by_cases e:x=y
 ·exact .inl e
 ·rcases jX 8 _ _ hx hy e with q|q
  ·exact .inr q
  ·rw [h] at q;cases q
theorem EB (x:T) (hx:kd 8 x=true):∀l:List T,(∀y∈l,kd 8 y=true)->fJ l->∃l',l'.Perm (x::l)/\fJ l'
 | [],_,_=>⟨[x],.refl _,by simp [fJ]⟩
 | y::l,hk,hr=>by
  have hy:=hk y U4;have hr':=W4.mp hr
  cases e:ltN 8 y x with
  | false =>
   refine⟨x::y::l,.refl _,W4.mpr ⟨fun z hz=>?_,hr⟩⟩;rcases Vn.mp hz with rfl|hz
   ·exact e
   ·have h1:=hr'.1 z hz
    rcases Og hx hy e with rfl|q
    ·exact h1
    ·cases e2:ltN 8 z x with
     | false=>rfl
     | true=>rw [dI 8 _ _ _ e2 q] at h1;cases h1
  | true =>
   obtain⟨l',p,r⟩:=EB x hx l (fun z hz=>hk z (U5 _ hz)) hr'.2;refine⟨y::l',(p.cons y).trans (.swap _ _ _),W4.mpr ⟨fun z hz=>?_,r⟩⟩;rcases Vn.mp (p.mem_iff.mp hz) with rfl|hz
   ·cases e2:ltN 8 z y with
    | false=>rfl
    | true=>have:=dI 8 _ _ _ e e2;rw [mJ] at this;cases this
   ·exact hr'.1 z hz
theorem EC:∀l:List T,(∀y∈l,kd 8 y=true)->∃l',l'.Perm l/\fJ l'
 | [],_=>⟨[],.refl _,ZX⟩
 | x::l,h=>by
  obtain⟨l1,p1,r1⟩:=EC l fun y hy=>h y (U5 _ hy)
  obtain⟨l2,p2,r2⟩:=EB x (h x U4) l1 (fun y hy=>h y (U5 _ (p1.mem_iff.mp hy))) r1;exact⟨l2,p2.trans (p1.cons x),r2⟩
theorem Ag {a b:List T} (hk:a.all (kd 8)=true) (p:a.Perm b):jZ a=jZ b:=by
 obtain⟨l',p',h⟩:=EC a (U7.mp hk);rw [qr hk p' h,qr (U7.mpr fun x hx=>U7.mp hk x (p.mem_iff.mpr hx)) (p'.trans p) h]
theorem Ah {fz:Bool} {w:T} (hu:X.A.units+20<cLine) (I:Inv X pins φ g L s) (hl:s.heap.IsList l its.toArray) (rv:cG g ts its) (ok:cJ ts) (h6:ts.all (kd 6)=true) (hS:ts.all rD=true) (h:eC fz (jZ (rZ ts)) L=.ok w L') :
  Vq (model X.prog X.w) X.A (call (.type "set") [.ref l]) (fun u s'=>Vq (model X.prog X.w) X.A (call (.builtin "sorted") [u]) (EP X pins φ g w L') F0 s') F0 s:=by
 have hlen:=Vr rv;have MG:=ok.1
 refine uT (led:=!X.w.params.followText "set-order") hl rfl ?_;refine codeAny_builtin pD ?_;rw [Wl lB _];have e1:(s.heap.push { cls:=.type "set",dict:=none,data:=.set #[] 0 (.fresh 0 0 (!X.w.params.followText "set-order")) }).get? s.heap.objs.size=some { cls:=.type "set",dict:=none,data:=.set #[] 0 (.fresh 0 0 (!X.w.params.followText "set-order")) }:=U9 _ rfl
 have e2:(s.heap.push { cls:=.type "set",dict:=none,data:=.set #[] 0 (.fresh 0 0 (!X.w.params.followText "set-order")) }).objs.size=s.heap.objs.size+1:=Wi _ _;have e3:((s.heap.push { cls:=.type "set",dict:=none,data:=.set #[] 0 (.fresh 0 0 (!X.w.params.followText "set-order")) }).push { cls:=.type "list_iterator",data:=.fields #[.ref l,.int 0 0] }).get? (s.heap.objs.size+1)=some { cls:=.type "list_iterator",data:=.fields #[.ref l,.int 0 0] }:=by
  rw [<- e2];exact U9 _ rfl
 refine Af (ld:=!X.w.params.followText "set-order") (l:=l) (ts:=ts) (its:=its) I (A:=X.A.in1.in1) (by show X.A.units+1+1+12<cLine;omega) I.ok.hd hl rv (by omega) (fun t ht=>⟨U7.mp h6 t ht,U7.mp hS t ht⟩) (Vm _) (Xe _) (VB (WH _)) ?_ its.length 0 _ s.toks #[] [] (by omega) (VK _) (fun b o z=>U1 _ (U1 _ z)) ⟨_,e3,rfl,rfl⟩ (Ae (U1 _ e1)) .nil .nil (VK _) (fun x=>by simp);intro h' tk es tr kp N5 hE hnd hmem;have pn:tr.Perm (rZ ts):=sy hnd (uV ts) fun x=>(hmem x).trans mO.symm
 have nl:(rZ ts).length<=ts.length:=wx ts;have hsz:es.size<1000:=by
  have z1:=Vr hE;have z2:=pn.length_eq
  have z4:es.toList.length=es.size:=by simp
  omega
 refine Yk kind_sorted plain_sorted entry_sorted (args_sorted1 _) ?_;unfold Builtin.«sorted»;refine U0 (m:=checkCount "sorted" 1 1 _) (U2 ?_);refine U0 (sx (A:=X.A.in1) (s:={ s with heap:=h',toks:=tk }) I.ok.hd N5 rfl hsz fun h2 Kz dr acc Oe pa=>?_);have I1:Inv X pins φ g L { s with heap:=h2,toks:=Kz,drawn:=dr }:=(I.kept (t':=Kz) fun b o q=>Oe b o (kp b o q)).Ta dr
 obtain⟨yf,p1,p2⟩:=lW pa (sA (wy hE));have rr:=sC p2
 have hl':=Vr rr;have kY:=p1.length_eq
 have Oh:cJ yf:=uW ok (by have:=pn.length_eq;omega) fun x hx=>(hmem x).mp (p1.mem_iff.mp hx)
 have gf:jZ yf=jZ (rZ ts):=Ag Oh.2.1 (p1.trans pn);refine U0 (wpAny_newList ?_ (by rw [WB];have:=Oh.1;omega));have jT:=fun E'=>nA (s:={ s with heap:=h2,toks:=Kz,drawn:=dr }) (E:=E') (A:=X.A.in1.in1) (by show X.A.units+1+1+8<cLine;omega) I1 rr Oh (by rw [gf];exact h)
 refine U0 (wpAny_holding (wpAny_call_entry slot_list_sort ⟨_,U9 _ rfl,rfl⟩ entry_list_sort ?body (args_list_sort _)))
 case body =>
  refine wpAny_mono (jT _) (fun fin s' z=>?_) fun _ _ z=>z
  obtain⟨rfl,z⟩:=z;exact⟨_,rfl,U2 ⟨_,rfl,z⟩⟩
end
end M
namespace M
open PySem PySem.Spec PyProof.Rows
section
variable {X:Cx} {pins:bf} {φ:Fr} {g:G} {L L':aa} {s:Vc} {o e:Expr} {m:SE} {fz:Bool} {p q ap pos:Pos}
theorem qD {t:List T} {L1:aa} (h:iS [m] φ L=.ok t L1):∃x,t=[x]/\m φ L=.ok x L1:=by
 obtain⟨x,L2,e1,h⟩:=R.of h;obtain⟨ts,L3,e2,h⟩:=R.of h;cases e2;cases h;exact⟨x,rfl,e1⟩
theorem Ai (hu:X.A.units+20<cLine) (ho:PE X o m) (hb:okBase o=true) (ni:(ap.endLine == q.line)=true) (hg:Gl X "sorted") (hm:X.mg "sorted"=none) (hs:bh (.Call (.Attribute o "items" ap) [] [] q)=true):PE X (.Call (.Name "sorted" p) [.Call (.Attribute o "items" ap) [] [] q] [] pos) (ae (ly fz) [m]):=fun {pins φ g L s w L'} I h=>by
 obtain⟨ts,L1,e1,h⟩:=R.of h;obtain⟨t,rfl,e2⟩:=qD e1;refine wpAny_Call_Name_kw (gg I hg hm (by kernel_rfl:bootBuiltins "sorted"=some (.builtin "sorted")) ?_ (by decide) (by decide));refine callWith_builtin1 ?_ (az hs) (bR rfl);rw [az hs];refine Yx ?_;refine wpAny_Call_method_late (base_ok hb) (uw rfl (by decide)) ni rfl (thn (ho I e2) fun v s1 ⟨g1,l1,I1,r1⟩=>?_);unfold ly at h;obtain⟨pp,vw⟩:=I1.view r1
 ·dsimp only at h
  split at h
  ·rename_i ks ev
   rw [ev] at vw;obtain⟨ok,h⟩:=aC h;obtain⟨a,od,es,ep,rfl,_,_,D⟩:=I1.aU vw;obtain⟨kvs,d1,d2,d3⟩:=Et D (r6 ok.2.2.1);refine⟨"dict","dict.items",YC,Z9,PySem.F.type_dict_items,D.typeIs,fun b e=>?_,?_⟩
   ·cases e;exact⟨od,D.ho,D.hx.2.1⟩
   ·refine aal (bR rfl) (aaK ?_)
    refine call_meetsIn Z9 D.typeIs PySem.F.entry_dict_items (PySem.F.args_dict_items_1 _) (meets_dict_items (ig X.prog X.w) a D.hs) ⟨⟨kvs,Heap.DictAt.dictOf d1⟩,?_⟩;refine X5 ?_;have kp:∀b o,s1.heap.get? b=some o->(s1.heap.push { cls:=.type "dict_items",data:=.fields #[.ref a] }).get? b=some o:=fun b o z=>U1 _ z
    have I2:=I1.kept (t':=s1.toks) kp;have D2:bL X g1 { s1 with heap:=s1.heap.push { cls:=.type "dict_items",data:=.fields #[.ref a] } } ks a od es ep:=⟨kp _ _ D.ho,D.hx,D.hd,D.hz,D.hl,D.hn,D.hm,D.hs,D.hh,D.h1,D.h2⟩
    exact thn (uK hu I2 D2 (U9 _ rfl) ok h) fun _ _ z=>z.le l1
  ·cases h
theorem C7 {m1 m2:SE} {t:List T} {L1:aa} (h:iS [m1,m2] φ L=.ok t L1):∃x y,t=[x,y]:=by
 obtain⟨x,L2,e1,h⟩:=R.of h;obtain⟨ts,L3,e2,h⟩:=R.of h;obtain⟨y,rfl,e2⟩:=qD e2;cases h;exact⟨x,y,rfl⟩
theorem Aj (hu:X.A.units+20<cLine) (ha:PA X [e] (iS [m])) (hg:Gl X "sorted") (hm:X.mg "sorted"=none) (CN:Gl X "set") (GW:X.mg "set"=none) (tU:[e].all bh=true) (hs:bh (.Call (.Name "set" ap) [e] [] q)=true):PE X (.Call (.Name "sorted" p) [.Call (.Name "set" ap) [e] [] q] [] pos) (ae (nz fz) [m]):=fun {pins φ g L s w L'} I h=>by
 obtain⟨ts,L1,e1,h⟩:=R.of h;obtain⟨t,rfl,e2⟩:=qD e1;refine wpAny_Call_Name_kw (gg I hg hm (by kernel_rfl:bootBuiltins "sorted"=some (.builtin "sorted")) ?_ (by decide) (by decide));refine callWith_builtin1 ?_ (az hs) (bR rfl);rw [az hs];refine Yx ?_;refine wpAny_Call_Name_kw (gg I CN GW (by kernel_rfl:bootBuiltins "set"=some (.type "set")) ?_ (by decide) (by decide));refine callWith_type1 (thn (ha q I e1) fun us s1 ⟨g1,l1,I1,r1⟩=>?_) (az (by simpa using tU)) (bR rfl);obtain⟨u,rfl,ru⟩:=bM r1;unfold nz at h;dsimp only at h;obtain⟨pp,v⟩:=I1.view ru;split at h
 ·rename_i ys ev
  rw [ev] at v;obtain⟨⟨ok,h6,hS⟩,h⟩:=aC h;obtain⟨a,its,n,rfl,e,rr,hz⟩:=I1.lst v;exact thn (Ah hu I1 (by simpa using ah e) rr ok h6 hS h) fun _ _ z=>X5 (thn z fun _ _ y=>y.le l1)
 ·cases h
theorem C8 {a b:Expr} {ma mb:SE} (hu:X.A.units+20<cLine) (ha:PA X [a,b] (iS [ma,mb])) (hg:Gl X "dict") (hm:X.mg "dict"=none) (CN:Gl X "zip") (GW:X.mg "zip"=none) (tU:[a,b].all bh=true) (hs:bh (.Call (.Name "zip" ap) [a,b] [] q)=true):PE X (.Call (.Name "dict" p) [.Call (.Name "zip" ap) [a,b] [] q] [] pos) (ae ij [ma,mb]):=fun {pins φ g L s w L'} I h=>by
 obtain⟨ts,L1,e1,h⟩:=R.of h;obtain⟨t1,t2,rfl⟩:=C7 e1;have QI:bh a=true/\bh b=true:=by simpa using tU
 refine wpAny_Call_Name_kw (gg I hg hm (by kernel_rfl:bootBuiltins "dict"=some (.type "dict")) ?_ (by decide) (by decide));refine callWith_type1 ?_ (az hs) (bR rfl);rw [az hs];refine Yx ?_;refine wpAny_Call_Name_kw (gg I CN GW (by kernel_rfl:bootBuiltins "zip"=some (.type "zip")) ?_ (by decide) (by decide));refine callWith_type1 (thn (ha q I e1) fun us s1 ⟨g1,l1,I1,r1⟩=>?_) (az QI.1) (bR (by simpa using QI.2));obtain⟨u1,u2,rfl,Tc,Td⟩:=lr r1;unfold ij at h;dsimp only at h;obtain⟨p1,v1⟩:=I1.view Tc;obtain⟨p2,v2⟩:=I1.view Td;split at h
 ·rename_i xs ys Oi Oj
  rw [Oi] at v1;rw [Oj] at v2;obtain⟨hle,h⟩:=aC h;obtain⟨a1,Ol,n1,rfl,q1,Oo,_⟩:=I1.lst v1;obtain⟨a2,qg,n2,rfl,q2,Cy,_⟩:=I1.lst v2;exact thn (sf (b:=false) hu I1 (by simpa using ah q1) (show s1.heap.IsList a2 qg.toList.toArray from by simpa using ah q2) Oo Cy hle h) fun _ _ z=>X5 (thn z fun _ _ y=>y.le l1)
 ·rename_i xs ys Oi Oj
  rw [Oi] at v1;rw [Oj] at v2;obtain⟨hle,h⟩:=aC h;obtain⟨a1,Ol,n1,rfl,q1,Oo,_⟩:=I1.lst v1;obtain⟨a2,qg,rfl,q2,Cy,_⟩:=I1.tupP v2;exact thn (sf (b:=true) hu I1 (by simpa using ah q1) (show s1.heap.IsTuple a2 qg.toList.toArray from by rw [Array.toArray_toList];exact q2) Oo Cy hle h) fun _ _ z=>X5 (thn z fun _ _ y=>y.le l1)
 ·cases h
end
structure eE (X:Cx) (Γ:Ct):Prop where
 hu:X.A.units+20<cLine
 fn:∀x F,Γ.fn.lookup x=some F->(x == ("__debug__":Str))=false/\∃k fa,fH X.prog X.w X.K X.mg X.cls X.base k fa F/\fG k X.A/\X.mg x=some (.ref fa)/\Wj X.K (.ref fa)=true
 co:∀x t,Γ.co.lookup x=some t->(x == ("__debug__":Str))=false/\∃u,X.mg x=some u/\∀g:G,g.B=X.base->g.cls=X.cls->g.w=X.w->RT g none t u
 us:∀x∈Γ.us,X.mg x=none/\x≠"__name__"/\(x == ("__debug__":Str))=false
 fl:∀c C,X.cls c=some C->ClsOk X.K Γ.fl C
 me:∀m mf,Γ.me.lookup m=some mf->∀c C F,X.cls c=some C->mf.lookup c=some F->∃fa k,Cj X.K C/\Meth X.K C m fa/\fH X.prog X.w X.K X.mg X.cls X.base k fa F/\fG k X.A
structure eI (X:Cx) (S:Sg):Prop where
 N:X.N=S.N
 nd:S.N.Nodup
 nm:S.N.all zN=true
 loc:∀x,S.sc.names.lookup x=some .local->X.env.scope.names.lookup x=some .local
 MN:∀x,S.sc.names.lookup x=some .cell->X.env.scope.names.lookup x=some .cell/\X.fn x=true
 QJ:∀x,S.sc.names.lookup x=some .free->X.env.scope.names.lookup x=some .cell\/X.env.scope.names.lookup x=some .free
 Te:∀x,S.sc.names.lookup x=some .globalImplicit->X.env.scope.names.lookup x=some .globalImplicit
structure fK (X:Cx) (B:Bd):Prop where
 E:∀e,PE X e (B.E e)
 T:∀e,PT X e (B.T e)
 S:∀st,PS X st (B.S st)
section
variable {X:Cx} {Γ:Ct} {S:Sg} {B:Bd} {BS:Sg->Bd} {x:Str} {i:Nat} {pos p p2:Pos} {a b e:Expr} {es:List Expr}
theorem nJ {N:List Str} (h:IX N x=some i):N[i]?=some x:=by
 obtain⟨h1,h2,_⟩:=Wo.mp h;rw [Ge9 h1,eq_of_beq h2]
theorem KA (c:eI X S) (h:S.N[i]?=some x):(x == ("__debug__":Str))=false/\(x == ("__classdict__":Str))=false:=by
 have:=U7.mp c.nm x (VN h);unfold zN at this;simpa using this
theorem at_of (c:eI X S) (h:S.at x=some i):X.N[i]?=some x/\MA X.env.scope x:=by
 unfold Sg.at at h;rw [c.N];split at h
 ·exact⟨nJ h,.inl (c.loc x (by assumption))⟩
 ·exact⟨nJ h,.inr (.inl (c.MN x (by assumption)).1)⟩
 ·refine⟨nJ h,?_⟩
  rcases c.QJ x (by assumption) with z|z
  ·exact .inr (.inl z)
  ·exact .inr (.inr z)
 ·cases h
theorem nK (c:eI X S) (h:S.own x=some i):ud X i x:=by
 unfold Sg.own at h;split at h
 ·exact⟨by rw [c.N];exact c.nd,by rw [c.N];exact nJ h,.inl (c.loc x (by assumption)),.inr (c.loc x (by assumption))⟩
 ·exact⟨by rw [c.N];exact c.nd,by rw [c.N];exact nJ h,.inr (c.MN x (by assumption)).1,.inl (c.MN x (by assumption)).2⟩
 ·cases h
theorem j4 (c:eI X S) (h:S.gl x=true):Gl X x:=by
 unfold Sg.gl at h;split at h
 ·exact c.Te x (by assumption)
 ·cases h
theorem C9 (o:eE X Γ) (c:eI X S):PE X (.Name x pos) (eName Γ S x):=by
 unfold eName;split
 ·rename_i h
  obtain⟨h1,h2⟩:=at_of c h;have:=KA c (by rw [<- c.N];exact h1)
  exact fun {_ _ _ _ _ _ _} I h=>Fh h1 h2 this.1 this.2 I h
 ·split
  ·rename_i hg
   split
   ·rename_i ht
    obtain⟨h1,u,h2,h3⟩:=o.co x _ ht;exact Fm (j4 c hg) h2 h3 h1
   ·split
    ·rename_i n hu hn
     obtain⟨h1,h2,h3⟩:=o.us x (by simpa using hu);have hb:bootBuiltins x=some (.type n):=by
      simp only [Vy] at hn
      repeat' split at hn
      all_goals first|cases hn|skip
      all_goals (rename_i hx;have hx:=eq_of_beq hx;subst hx;kernel_rfl)
     exact fun {_ _ _ _ _ _ _} I q=>Fo (j4 c hg) h1 hb (fun _ _ _ _=>.ty _) h2 h3 I q
    ·exact fun {_ _ _ _ _ _ _} I q=>cL I q
  ·exact fun {_ _ _ _ _ _ _} I q=>cL I q
theorem Ha {k:Const} {j:Nat}:PE X (.Constant k j pos) (GK k):=by
 cases k with
 | int=>exact Fi
 | bool=>exact Jm
 | none=>exact Fj
 | str x =>
  delta GK;dsimp only;split
  ·rename_i h;exact Fl (of_decide_eq_true h)
  ·exact cL
 | _=>exact cL
theorem Hb (o:eE X Γ) (hB:fK X B) {ops:List CmpOp}:PE X (.Compare a ops es pos) (zL B a ops es):=by
 unfold zL;split
 ·exact cL
 ·split
  ·split
   ·split
    ·exact Fq (qk o.hu) (hB.E _) (hB.E _) (by assumption)
    ·exact cL
   ·exact cL
  ·split
   ·split
    ·split
     ·exact yw (fun _=>qk o.hu) (hB.E _) (hB.E _) (hB.E _) (by assumption)
     ·exact cL
    ·exact cL
   ·exact cL
theorem Dc (o:eE X Γ) (hB:fK X B) {ops:List CmpOp}:PT X (.Compare a ops es pos) (tv (zL B a ops es)):=by
 have Dd:PT X (.Compare a ops es pos) (tv no):=fun {_ _ _ _ _ _ _} w _ I h=>by cases h
 unfold zL;split
 ·exact @Dd
 ·split
  ·split
   ·split
    ·rename_i hm;exact fun {_ _ _ _ _ _ _} w hw I h=>FC (qk o.hu) (hB.E _) (hB.E _) hm w hw I h
    ·exact @Dd
   ·exact @Dd
  ·split
   ·split
    ·split
     ·rename_i hm;exact fun {_ _ _ _ _ _ _} w hw I h=>yx (fun _=>qk o.hu) (hB.E _) (hB.E _) (hB.E _) hm w hw I h
     ·exact @Dd
    ·exact @Dd
   ·exact @Dd
theorem Ak (hB:fK X B) {o:Option Expr}:PO X o (o.map B.E):=by
 cases o with
 | none=>exact Cq
 | some e=>exact Cr (hB.E e)
theorem Hc (o:eE X Γ) (hB:fK X B):PE X (.Subscript a b pos) (JX Γ B a b pos):=by
 have V:PE X (.Subscript a b pos) (MI B a b):=by
  unfold MI;split
  ·exact Jn (JP o.hu (by assumption)) (hB.E _) (hB.E _)
  ·exact cL
 cases b with
 | Slice lo hi st p=>cases st with
  | none=>exact fun {_ _ _ _ _ _ _} I q=>Gp (hB.E _) (Ak hB) (Ak hB) I q
  | some _=>exact @V
 | _=>exact @V
theorem eK (hB:fK X B):∀{es:List Expr},es.all bh=true->PA X es (iS (es.map B.E))
 | [],_=>p6
 | e::es,h=>by
  rw [VU,Ve] at h;exact jL (hB.E e) (eK hB h.2) h.1
theorem wz (hB:fK X B):∀(es:List Expr),PE X (.BoolOp .And es pos) (lA (es.map B.E))
 | []=>cL
 | [a]=>yu (hB.E a)
 | a::b::r=>Fv (hB.E a) (wz hB (b::r))
theorem Al (hB:fK X B):∀(es:List Expr),PE X (.BoolOp .Or es pos) (BX (es.map B.E))
 | []=>cL
 | [a]=>yu (hB.E a)
 | a::b::r=>Jp (hB.E a) (Al hB (b::r))
theorem wA (hB:fK X B):∀(es:List Expr),PT X (.BoolOp .And es pos) (jf (es.map B.T))
 | []=>vN
 | [a]=>B4 (hB.T a)
 | a::b::r=>Fz (hB.T a) (wA hB (b::r))
theorem Am (hB:fK X B):∀(es:List Expr),PT X (.BoolOp .Or es pos) (xA (es.map B.T))
 | []=>vN
 | [a]=>Fy (hB.T a)
 | a::b::r=>Jq (hB.T a) (Am hB (b::r))
theorem gF (hB:fK X B):∀(l:List Stmt),yr X l (ab (l.map B.S))
 | []=>B5
 | s::l=>yz (hB.S s) (gF hB l)
theorem De {a:Option Nat} {b:Option (List Nat)} {is:List Nat} (h:GL a b=some is):∃i js,a=some i/\b=some js/\is=i::js:=by
 cases a with
 | none=>cases h
 | some i=>cases b with
  | none=>cases h
  | some js=>cases h;exact⟨i,js,rfl,rfl,rfl⟩
theorem qE (c:eI X S):∀{ts:List Expr} {is:List Nat},zM S ts=some is->Jt X ts is/\(assignEach ts X.env).length=is.length/\(assignEach ts X.env).findIdx? (·.1)=none
 | [],is,h=>by cases h;exact⟨B8,rfl,rfl⟩
 | t::r,is,h=>by
  cases t with
  | Name x p =>
   obtain⟨i,js,h1,h2,rfl⟩:=De (show GL (S.own x) (zM S r)=some is from h);obtain⟨q1,q2,q3⟩:=qE c h2;refine⟨yA (nK c h1) q1,?_,?_⟩
   ·show(assignEach r X.env).length+1=_;rw [q2];rfl
   ·show((false,_)::assignEach r X.env).findIdx? (·.1)=none
    rw [Zo,q3];rfl
  | _=>cases h
theorem uX (c:eI X S) {tg:Expr} {t:Tg} (h:ND S tg=some t):PG X tg t:=by
 cases tg with
 | Name x p =>
  obtain⟨i,h1,rfl⟩:=Vj.mp h;exact mD (nK c h1)
 | Tuple ts k p =>
  obtain⟨is,h1,rfl⟩:=Vj.mp h;obtain⟨q1,q2,q3⟩:=qE c h1;exact yB q1 q2 q3
 | _=>cases h
theorem An {e:Expr} (h:isTup e=true):∃ts k p,e=.Tuple ts k p:=by
 cases e with
 | Tuple ts k p=>exact⟨ts,k,p,rfl⟩
 | _=>cases h
theorem qF (o:eE X Γ) (c:eI X S) (hB:fK X B) {tg:Expr}:PI X tg e (stI Γ B S tg e):=by
 unfold stI;split
 ·rename_i x px es pos
  unfold En;split
  ·rename_i hc
   simp only [Ve] at hc;obtain⟨⟨h1,h2⟩,h3⟩:=hc;have hg:=j4 c h1
   have hm:=(o.us x (by simpa using h2)).1;split
   ·rename_i hx
    have:=eq_of_beq hx;subst this;split
    ·simp only [VU,Zp,aaa] at h3
     exact fun {_ _ _ _ _ _ _ _} I h=>Ca hg hm (hB.E _) h3 I h
    ·simp only [VU,Zp,aaa,Ve] at h3
     exact fun {_ _ _ _ _ _ _ _} I h=>Cb hg hm (hB.E _) (hB.E _) h3.1 h3.2 I h
    ·exact fun {_ _ _ _ _ _ _ _} I h=>lj (hB.E _) I h
   ·split
    ·split
     ·rename_i hx
      have:=eq_of_beq hx;subst this;split
      ·rename_i ht
       simp only [VU,Zp,aaa] at h3;obtain⟨_,_,_,rfl⟩:=An ht;exact fun {_ _ _ _ _ _ _ _} I h=>FQ hg hm (hB.E _) h3 I h
      ·exact fun {_ _ _ _ _ _ _ _} I h=>lj (hB.E _) I h
     ·exact fun {_ _ _ _ _ _ _ _} I h=>lj (hB.E _) I h
    ·exact fun {_ _ _ _ _ _ _ _} I h=>lj (hB.E _) I h
  ·exact fun {_ _ _ _ _ _ _ _} I h=>lj (hB.E _) I h
 ·exact fun {_ _ _ _ _ _ _ _} I h=>lj (hB.E _) I h
theorem j5 {scope:Scope} {env:Env} {y:Str} {k:NameKind} (h:scope.names.lookup y=some k) (hk:k≠.free):(relabel scope env).names.lookup y=some k:=by
 have go:∀(names:List (Str × NameKind)),names.lookup y=some k->(names.map fun(n,k)=>if (k == WI && env.scope.kind == .function && env.kindOf n == some .cell) then (n,Z1) else (n,k)).lookup y=some k:=by
  intro names;induction names with
  | nil=>intro h;simp at h
  | cons a r ih =>
   obtain⟨n,k'⟩:=a;intro h;rw [Vg];rw [Vy] at h;by_cases hc:(k' == WI && env.scope.kind == .function && env.kindOf n == some .cell)=true
   ·simp only [hc,if_true,Vy]
    cases hy:y == n with
    | true =>
     rw [hy] at h;have e:k'=k:=WN h
     simp only [Ve,beq_iff_eq] at hc;exact absurd (e ▸ hc.1.1) hk
    | false =>
     rw [hy] at h;exact ih h
   ·simp only [hc,Vi,if_false,Vy]
    cases hy:y == n with
    | true =>
     rw [hy] at h;exact h
    | false =>
     rw [hy] at h;exact ih h
 exact go scope.names h
theorem wB (c:eI X S) {sc:Scope} (h:uJ S sc=true):mZ X sc (inN sc) (aY S sc)/\∀cl C s₀ H₀ ex,eI (de X sc cl (inN sc) C s₀ H₀ ex) ⟨inN sc,sc⟩:=by
 unfold uJ at h;simp only [Ve] at h;obtain⟨⟨⟨h1,h2⟩,h3⟩,h4⟩:=h;have h2:=U7.mp h2
 have m4:∀y∈sc.names,y.2≠.cell:=fun y hy e=>by
  have:=h2 y hy;rw [e] at this;cases this
 constructor
 ·refine⟨?_,m4,fun y hy e=>?_,fun y hy e=>?_,fun i y j q1 q2=>?_,of_decide_eq_true h3,by unfold aY;rw [Lm9]⟩
  ·split at h1
   ·assumption
   ·cases h1
  ·have:=h2 y hy
   simp only [e] at this;split at this
   ·assumption
   ·cases this
  ·have:=h2 y hy
   simp only [e] at this;split at this
   ·rename_i k;exact .inl (c.MN _ k).1
   ·rename_i k;exact c.QJ _ k
   ·cases this
  ·unfold aY at q2
   rw [Vs,q1] at q2;simp only [Option.map_some,Option.some.injEq] at q2;split at q2
   ·rename_i k
    exact⟨(at_of c q2).1,k⟩
   ·cases q2
 ·intro cl C s₀ H₀ ex
  exact⟨rfl,of_decide_eq_true h3,h4,fun x h=>j5 h (by decide),fun x h=>absurd rfl (m4 (x,.cell) (VQ h)),fun x h=>jR h,fun x h=>j5 h (by decide)⟩
theorem eE.comp (o:eE X Γ) {sc:Scope} {N:List Str} {cl C s₀ H₀ ex}:eE (de X sc cl N C s₀ H₀ ex) Γ:=⟨o.hu,o.fn,o.co,o.us,o.fl,o.me⟩
theorem sD (hB:fK X B) (ifs:List Expr):FX X ifs (tests B ifs):=by
 unfold tests;split
 ·exact Cc
 ·exact Cd (hB.T _)
 ·exact fun I h=>by cases h
theorem Dg (hS:∀X S,eE X Γ->eI X S->fK X (BS S)) (o:eE X Γ) (c:eI X S) {elt tg iter:Expr} {ifs:List Expr} {sc:Scope}:PE X (.ListComp elt [⟨tg,iter,ifs,0⟩] sc pos) (pj Γ BS S elt tg iter ifs sc pos):=by
 unfold pj;split
 ·rename_i t ht
  split
  ·rename_i h
   simp only [Ve] at h;obtain⟨⟨h1,h2⟩,h3⟩:=h;obtain⟨k1,k2⟩:=wB c h1;refine fun {_ _ _ _ _ _ _} I h=>vU k1 (fun i hi=>?_) (qF o c (hS X S o c)) (fun cl C s₀ H₀ ex=>uX (k2 cl C s₀ H₀ ex) ht) (fun cl C s₀ H₀ ex=>sD (hS _ _ o.comp (k2 cl C s₀ H₀ ex)) ifs) (fun cl C s₀ H₀ ex=>(hS _ _ o.comp (k2 cl C s₀ H₀ ex)).E elt) h2 I h
   have:=U7.mp h3 i hi;split at this
   ·assumption
   ·cases this
  ·exact cL
 ·exact cL
theorem Ao (hS:∀X S,eE X Γ->eI X S->fK X (BS S)) (o:eE X Γ) (c:eI X S) {y:Str} (hy:ud X i y) {elt tg iter:Expr} {ifs:List Expr} {sc:Scope}:PS X (.Assign [.Name y p] (.ListComp elt [⟨tg,iter,ifs,0⟩] sc pos) p2) (asg (.one i) (pj Γ BS S elt tg iter ifs sc pos)):=by
 have Dd:PS X (.Assign [.Name y p] (.ListComp elt [⟨tg,iter,ifs,0⟩] sc pos) p2) (asg (.one i) no):=fun I h=>absurd rfl h
 unfold pj;split
 ·rename_i t ht
  split
  ·rename_i h
   simp only [Ve] at h;obtain⟨⟨h1,h2⟩,h3⟩:=h;obtain⟨k1,k2⟩:=wB c h1;refine fun {_ _ _ _ _} I h=>Cg hy k1 (fun i hi=>?_) (qF o c (hS X S o c)) (fun cl C s₀ H₀ ex=>uX (k2 cl C s₀ H₀ ex) ht) (fun cl C s₀ H₀ ex=>sD (hS _ _ o.comp (k2 cl C s₀ H₀ ex)) ifs) (fun cl C s₀ H₀ ex=>(hS _ _ o.comp (k2 cl C s₀ H₀ ex)).E elt) h2 I h
   have:=U7.mp h3 i hi;split at this
   ·assumption
   ·cases this
  ·exact fun {_ _ _ _ _} I h=>Dd I h
 ·exact fun {_ _ _ _ _} I h=>Dd I h
end
section
variable {X:Cx} {Γ:Ct} {S:Sg} {B:Bd} {BS:Sg->Bd} {x:Str} {i:Nat} {pos p p2:Pos} {a b e o:Expr} {es:List Expr} {fz:Bool} {F:Fn}
theorem nL {α β:Type} [BEq α] [LawfulBEq α] {P:α->β->Prop} {x:α} {b:β}:∀{l:List (α × β)},l.lookup x=some b->(∀p∈l,P p.1 p.2)->P x b
 | (a,c)::l,h,k=>by
  rw [Vy] at h;split at h
  ·rename_i e
   cases h;cases eq_of_beq e;exact k _ U4
  ·exact nL h fun p hp=>k p (U5 _ hp)
theorem lc {α:Type} {P:α->Prop} {a:α} {l:List α} (h:P a) (k:∀x∈l,P x):∀x∈a::l,P x:=Yg.mpr ⟨h,k⟩
theorem ln {α:Type} {P:α->Prop}:∀x∈([]:List α),P x:=fun _ h=>nomatch h
theorem Hd (hu:X.A.units+20<cLine) (h:blt x fz=some F):∃f,bootBuiltins x=some f/\dS X f F/\((∃id,f=.builtin id)\/∃T,f=.type T):=by
 refine nL (P:=fun x F=>∃f,bootBuiltins x=some f/\dS X f F/\((∃id,f=.builtin id)\/∃T,f=.type T)) h ?_
 repeat' refine lc ?_ ?_
 ·exact⟨_,by kernel_rfl,yW,.inl ⟨_,rfl⟩⟩
 ·exact⟨_,by kernel_rfl,xt,.inr ⟨_,rfl⟩⟩
 ·exact⟨_,by kernel_rfl,yX,.inr ⟨_,rfl⟩⟩
 ·exact⟨_,by kernel_rfl,y0,.inl ⟨_,rfl⟩⟩
 ·exact⟨_,by kernel_rfl,zc,.inl ⟨_,rfl⟩⟩
 ·exact⟨_,by kernel_rfl,zo,.inl ⟨_,rfl⟩⟩
 ·exact⟨_,by kernel_rfl,zd,.inr ⟨_,rfl⟩⟩
 ·exact⟨_,by kernel_rfl,zf,.inr ⟨_,rfl⟩⟩
 ·exact⟨_,by kernel_rfl,xw hu,.inr ⟨_,rfl⟩⟩
 ·exact⟨_,by kernel_rfl,xD hu,.inl ⟨_,rfl⟩⟩
 ·exact ln
theorem He (hu:X.A.units+20<cLine) {f:Ty->Option (T->Fn)} (h:Qh x fz=some f):∀y F,f y=some F->Gu X x y F:=by
 refine nL (P:=fun x f=>∀y F,f y=some F->Gu X x y F) h ?_
 repeat' refine lc ?_ ?_
 rotate_right
 ·exact ln
 all_goals (intro y F hf;cases y <;> cases hf)
 ·exact⟨_,YD,Y2,PySem.F.type_list_append,Gv⟩
 ·exact⟨_,YD,Y3,PySem.F.type_list_extend,Gw⟩
 ·exact⟨_,YD,Z2,PySem.F.type_list_count,CA hu⟩
 ·exact⟨_,ZY,ZN,PySem.F.type_tuple_count,CB hu⟩
 ·exact⟨_,ZY,ZO,PySem.F.type_tuple_index,Gx hu⟩
 ·exact⟨_,YJ,PySem.F.slot_str_join,PySem.F.type_str_join,CC⟩
 ·exact⟨_,YJ,XN,PySem.F.type_str_split,zu⟩
 ·exact⟨_,YJ,PySem.F.slot_str_strip,PySem.F.type_str_strip,zq⟩
 ·exact⟨_,YC,aay,PySem.F.type_dict_get,GB hu⟩
 ·exact⟨_,YC,Y8,PySem.F.type_dict_setdefault,GC hu⟩
theorem Dh (o:eE X Γ) (c:eI X S) (hB:fK X B) {q:Fn × List Expr} (hg:Gl X x) (h1:X.mg x=none) (h2:x≠"__name__") (h3:(x == ("__debug__":Str))=false) (hs:es.all bh=true) (h:nest Γ S fz x es=some q):PE X (.Call (.Name x p) es [] pos) (ae q.1 (q.2.map B.E)):=by
 unfold nest at h;split at h
 case h_2=>cases h
 split at h
 case h_2=>cases h
 split at h
 case h_2=>cases h
 split at h
 case h_3=>cases h
 ·rename_i QK q _ _ y p2
  replace hs:bh (.Call (.Name y p2) QK [] q)=true:=by simpa using hs
  unfold Eo at h;split at h
  case h_2=>cases h
  rename_i hb;simp only [Ve] at hb;obtain⟨⟨⟨b1,b2⟩,b3⟩,b4⟩:=hb;obtain⟨m1,m2,m3⟩:=o.us y (by simpa using b2);split at h
  ·rename_i hx
   rw [Ve] at hx;have e1:=eq_of_beq hx.1
   have e2:=eq_of_beq hx.2;subst e1 e2;split at h
   ·cases h
    exact fun {_ _ _ _ _ _ _} I q=>Aj o.hu (eK hB b3) hg h1 (j4 c b1) m1 b3 hs I q
   ·cases h
  ·split at h
   ·rename_i hx
    rw [Ve] at hx;have e1:=eq_of_beq hx.1
    have e2:=eq_of_beq hx.2;subst e1 e2;split at h
    ·cases h
     exact fun {_ _ _ _ _ _ _} I q=>C8 o.hu (eK hB b3) hg h1 (j4 c b1) m1 b3 hs I q
    ·cases h
   ·cases h
 ·rename_i QK q _ _ ob m ap
  split at h
  case h_2=>cases h
  replace hs:bh (.Call (.Attribute ob m ap) [] [] q)=true:=by simpa using hs
  unfold Ep at h;split at h
  ·rename_i hb
   simp only [Ve] at hb;obtain⟨⟨⟨⟨b1,b2⟩,b3⟩,b4⟩,b5⟩:=hb;have e1:=eq_of_beq b3
   have e2:=eq_of_beq b4;subst e1 e2;cases h;exact fun {_ _ _ _ _ _ _} I q=>Ai o.hu (hB.E _) b1 b2 hg h1 hs I q
  ·cases h
theorem Di (o:eE X Γ) (c:eI X S) (hB:fK X B):PE X (.Call (.Name x p) es [] pos) (zO Γ B S x es pos):=by
 unfold zO;split
 ·rename_i h
  simp only [Ve] at h;split
  ·rename_i F hF
   obtain⟨h1,k,fa,h2,h3,h4,h5⟩:=o.fn x F hF;cases es with
   | nil=>exact fun {_ _ _ _ _ _ _} I q=>Cm (uu h2 h3) (j4 c h.1) h4 h5 h1 I q
   | cons e es=>exact fun {_ _ _ _ _ _ _} I q=>Gf (uu h2 h3) (j4 c h.1) h4 h5 (eK hB h.2) h.2 h1 I q
  ·split
   ·rename_i hb hF
    simp only [Ve] at hb;obtain⟨h1,h2,h3⟩:=o.us x (by simpa using hb.1);split
    ·rename_i q hq
     exact fun {_ _ _ _ _ _ _} I z=>Dh o c hB (j4 c h.1) h1 h2 h3 h.2 hq I z
    ·cases es with
     | nil=>exact absurd hb.2 (by simp)
     | cons e es=>exact fun {_ _ _ _ _ _ _} I q=>Gq (Hd o.hu hF) (j4 c h.1) h1 h2 h3 (eK hB h.2) h.2 I q
   ·exact fun {_ _ _ _ _ _ _} I q=>cL I q
 ·exact fun {_ _ _ _ _ _ _} I q=>cL I q
theorem Dj (oc:eE X Γ) (hB:fK X B):PE X (.Call (.Attribute o x p) es [] pos) (zP Γ B o x p es pos):=by
 unfold zP;split
 ·rename_i h
  simp only [Ve] at h;obtain⟨⟨⟨h1,h2⟩,h3⟩,h4⟩:=h;have h3:=of_decide_eq_true h3
  have h0:es=[]->es.map B.E=[]:=fun e=>by rw [e];rfl
  split
  ·rename_i mf hF
   refine fun {_ _ _ _ _ _ _} I q=>Co (fun c C F hc hf=>?_) (hB.E o) (eK hB h2) h0 h2 h3 h1 h4 I q
   obtain⟨fa,k,q1,q2,q3,q4⟩:=oc.me x mf hF c C F hc hf;exact⟨fa,q1,q2,uu q3 q4⟩
  ·split
   ·rename_i f hf
    exact fun {_ _ _ _ _ _ _} I q=>Cw (He oc.hu hf) (hB.E o) (eK hB h2) h0 h2 h3 h1 h4 I q
   ·exact fun {_ _ _ _ _ _ _} I q=>cL I q
 ·exact fun {_ _ _ _ _ _ _} I q=>cL I q
theorem Ap (hS:∀X S,eE X Γ->eI X S->fK X (BS S)) (o:eE X Γ) (c:eI X S) (e:Expr):PE X e (Er Γ BS S e):=by
 have hB:=hS X S o c;have no:PE X e no:=fun {_ _ _ _ _ _ _} I q=>cL I q
 cases e with
 | Name=>exact fun {_ _ _ _ _ _ _} I q=>C9 o c I q
 | Constant=>exact fun {_ _ _ _ _ _ _} I q=>Ha I q
 | BinOp=>exact fun {_ _ _ _ _ _ _} I q=>Fp Gk (hB.E _) (hB.E _) I q
 | UnaryOp op=>cases op with
  | Not=>exact fun {_ _ _ _ _ _ _} I q=>Fu (hB.E _) I q
  | USub=>exact fun {_ _ _ _ _ _ _} I q=>Jo Ft (hB.E _) I q
  | _=>exact @no
 | BoolOp op=>cases op with
  | And=>exact fun {_ _ _ _ _ _ _} I q=>wz hB _ I q
  | Or=>exact fun {_ _ _ _ _ _ _} I q=>Al hB _ I q
 | Compare=>exact fun {_ _ _ _ _ _ _} I q=>Hb o hB I q
 | IfExp=>exact fun {_ _ _ _ _ _ _} I q=>FD (hB.T _) (hB.E _) (hB.E _) I q
 | List =>
  delta Er;dsimp only;split
  ·rename_i h;exact fun {_ _ _ _ _ _ _} I q=>FE (eK hB h) I q
  ·exact @no
 | Tuple =>
  delta Er;dsimp only;split
  ·rename_i h
   simp only [Ve] at h;exact fun {_ _ _ _ _ _ _} I q=>FF (eK hB h.1) (Vt (of_decide_eq_true h.2) (by decide)) (by simp) I q
  ·exact @no
 | Dict a b=>cases a with
  | nil=>cases b with
   | nil=>exact fun {_ _ _ _ _ _ _} I q=>CI I q
   | _=>exact @no
  | _=>exact @no
 | Subscript=>exact fun {_ _ _ _ _ _ _} I q=>Hc o hB I q
 | Attribute =>
  delta Er;dsimp only;split
  ·rename_i h
   simp only [Ve] at h;exact fun {_ _ _ _ _ _ _} I q=>pe_fld o.fl (by simpa using h.2) (hB.E _) h.1 I q
  ·exact @no
 | ListComp _ gs=>cases gs with
  | nil=>exact @no
  | cons g r =>
   obtain⟨tg,it,fs,n⟩:=g;cases n with
   | ofNat n=>cases n with
    | zero=>cases r with
     | nil=>exact fun {_ _ _ _ _ _ _} I q=>Dg hS o c I q
     | cons=>exact @no
    | succ=>cases r <;> exact @no
   | negSucc=>cases r <;> exact @no
 | Call f es ks=>cases ks with
  | nil=>cases f with
   | Name=>exact fun {_ _ _ _ _ _ _} I q=>Di o c hB I q
   | Attribute=>exact fun {_ _ _ _ _ _ _} I q=>Dj o hB I q
   | _=>exact @no
  | cons=>cases f <;> exact @no
 | _=>exact @no
theorem Hf (o:eE X Γ) (hB:fK X (BS S)) (hE:∀e,PE X e (Er Γ BS S e)) (e:Expr):PT X e (Qi (BS S) (Er Γ BS S) e):=by
 have no:PT X e no:=fun {_ _ _ _ _ _ _} w hw I q=>vN w hw I q
 cases e with
 | UnaryOp op=>cases op with
  | Not=>exact fun {_ _ _ _ _ _ _} w hw I q=>Fx (hB.T _) w hw I q
  | _=>exact @no
 | BoolOp op=>cases op with
  | And=>exact fun {_ _ _ _ _ _ _} w hw I q=>wA hB _ w hw I q
  | Or=>exact fun {_ _ _ _ _ _ _} w hw I q=>Am hB _ w hw I q
 | Compare=>exact fun {_ _ _ _ _ _ _} w hw I q=>Dc o hB w hw I q
 | Name|Call|Subscript|Attribute|Constant=>exact fun {_ _ _ _ _ _ _} w hw I q=>Fw (hE _) (fun _=>rfl) (fun _ _ _ h=>by cases h) w hw I q
 | _=>exact @no
theorem ED {tg:Expr} {l:Nat} {env:Env} (h:jg e=true):swapsWithSole [tg] e l env=pure false:=jM h
theorem QL {ts:List Expr} {k:Nat} {env:Env} (h:Es e=true):swappedStores [.Tuple ts k p] e env=pure none/\jg e=true:=by
 cases e <;> first|exact⟨rfl,rfl⟩|cases h
theorem Hg {gs:List Comprehension} {tg iter:Expr} {ifs:List Expr} (h:NF gs=some (tg,iter,ifs)):gs=[⟨tg,iter,ifs,0⟩]:=by
 unfold NF at h;split at h
 ·cases h;rfl
 ·cases h
theorem Hh (hS:∀X S,eE X Γ->eI X S->fK X (BS S)) (o:eE X Γ) (c:eI X S) {tg:Expr}:PS X (.Assign [tg] e pos) (xB Γ BS S tg e):=by
 have hB:=hS X S o c;have no:PS X (.Assign [tg] e pos) gu:=fun {_ _ _ _ _} I q=>yy I q
 cases tg with
 | Name x p =>
  delta xB;dsimp only;split
  ·rename_i i hi
   have V:PS X (.Assign [.Name x p] e pos) (CV BS S i e):=by
    unfold CV;split
    ·rename_i hv
     exact fun {_ _ _ _ _} I q=>ue (hB.E _) (mD (nK c hi)) (ED hv) rfl rfl I q
    ·exact @no
   cases e with
   | ListComp elt gs sc q =>
    dsimp only;split
    ·rename_i hg
     cases Hg hg;exact fun {_ _ _ _ _} I q=>Ao hS o c (nK c hi) I q
    ·exact @V
   | _=>exact @V
  ·exact @no
 | Tuple ts _ _ =>
  delta xB;dsimp only;split
  ·rename_i hi ht
   obtain⟨q1,q2,q3⟩:=qE c hi;exact fun {_ _ _ _ _} I q=>ue (hB.E _) (yB q1 q2 q3) (ED (QL (ts:=[]) (k:=0) (p:=pos) (env:=X.env) ht).2) (QL ht).1 rfl I q
  ·exact @no
 | Attribute ob f _ =>
  delta xB;dsimp only;split
  ·rename_i h
   simp only [Ve] at h;exact fun {_ _ _ _ _} I q=>Ck o.fl (by simpa using h.1) (hB.E _) (hB.E _) h.2 I q
  ·exact @no
 | Subscript ob i _ =>
  delta xB;dsimp only;split
  ·rename_i h;exact fun {_ _ _ _ _} I q=>CG o.hu (hB.E _) (hB.E _) (hB.E _) h I q
  ·exact @no
 | _=>exact @no
theorem Hi (hS:∀X S,eE X Γ->eI X S->fK X (BS S)) (o:eE X Γ) (c:eI X S) (st:Stmt):PS X st (IY Γ BS S st):=by
 have hB:=hS X S o c;have no:PS X st gu:=fun {_ _ _ _ _} I q=>yy I q
 cases st with
 | Pass=>exact fun {_ _ _ _ _} I q=>B6 I q
 | Break=>exact fun {_ _ _ _ _} I q=>FH I q
 | Continue=>exact fun {_ _ _ _ _} I q=>FI I q
 | Expr =>
  delta IY;dsimp only;split
  ·rename_i h;exact fun {_ _ _ _ _} I q=>FJ (hB.E _) h I q
  ·exact @no
 | Return v=>cases v with
  | none=>exact fun {_ _ _ _ _} I q=>B7 I q
  | some=>exact fun {_ _ _ _ _} I q=>FL (hB.E _) I q
 | If=>exact fun {_ _ _ _ _} I q=>Jr (hB.T _) (gF hB _) (gF hB _) I q
 | Assign ts=>cases ts with
  | nil=>exact @no
  | cons t r=>cases r with
   | nil=>exact fun {_ _ _ _ _} I q=>Hh hS o c I q
   | cons=>exact @no
 | AugAssign t=>cases t with
  | Name =>
   delta IY;dsimp only;split
   ·rename_i h;exact fun {_ _ _ _ _} I q=>FN (nK c h) (hB.E _) yS I q
   ·exact @no
  | Subscript =>
   delta IY;dsimp only;split
   ·rename_i h;exact fun {_ _ _ _ _} I q=>CH o.hu (hB.E _) (hB.E _) (hB.E _) h I q
   ·exact @no
  | _=>exact @no
 | For tg e b r=>cases r with
  | nil =>
   delta IY;dsimp only;split
   ·rename_i h1 h2;exact fun {_ _ _ _ _} I q=>FU (qF o c hB) (uX c h1) (gF hB _) h2 I q
   ·exact @no
  | cons=>exact @no
 | While k b r=>cases r with
  | nil=>exact fun {_ _ _ _ _} I q=>FO (hB.T _) (gF hB _) lim I q
  | cons=>exact @no
 | _=>exact @no
theorem sE:∀(n:Nat) (X:Cx) (S:Sg),eE X Γ->eI X S->fK X (cX Γ n S)
 | 0,X,S,_,_=>⟨fun _ {_ _ _ _ _ _ _} I q=>cL I q,fun _ {_ _ _ _ _ _ _} w hw I q=>vN w hw I q,fun _ {_ _ _ _ _} I q=>yy I q⟩
 | n+1,X,S,o,c=>⟨Ap (sE n) o c,Hf o (sE n X S o c) (Ap (sE n) o c),Hi (sE n) o c⟩
theorem wC (o:eE X Γ) (c:eI X S) (b:List Stmt):yr X b (code Γ S b):=gF (sE 40 X S o c) b
end
theorem sF {n0 n:Nat} {L:aa} (hn:n0<=n) (h:∀c,at_ L n=some c->c=.ref n):∀k,cf n0 L k (.ref n)=none
 | 0=>rfl
 | k+1=>by
  unfold cf;rw [if_neg (by rw [lt];simpa using hn)];cases e:at_ L n with
  | none=>simp only [e]
  | some c=>simp only [e];rw [h c e];exact sF hn h k
theorem Dk {n0 k:Nat} {L:aa} {xs:List T} {t:T} (e:cf n0 L (k+2) (.lst xs)=some t):∃ys,t=.lst ys/\xs.length=ys.length/\∀(i:Nat) y,ys[i]?=some y->∃x,xs[i]?=some x/\cf n0 L (k+1) x=some y:=by
 unfold cf at e;split at e
 ·rename_i hl
  cases e;rw [lt] at hl;refine⟨xs,rfl,rfl,fun i y q=>⟨y,q,?_⟩⟩;unfold cf;rw [if_pos (gN.mp hl i y q)]
 ·obtain⟨ys,e1,rfl⟩:=Vj.mp e
  obtain⟨len,at'⟩:=iU e1;exact⟨ys,rfl,len,at'⟩
theorem Dl {g g':G} {L L' Lo:aa} {t t':T} {u:U8} (l:Le g g') (r0:Rel g L) (r:Rel g' L') (h:RT g' none t u) (e:CU L t L'=.ok t' Lo) :
  ∃da,Le g da/\Rel da Lo/\RT da none t' u/\(∀a b o,da.H a=some (b,o)->∃b',g'.H a=some (b',o))/\(∀a,g'.H a=none->da.H a=none)/\∀a o,g'.H a=some (true,o)->da.H a=some (true,o):=by
 classical
 cases t with
 | ref n=>?_
 | _=>cases e
 cases h with
 | ref hp=>?_
 rename_i p;unfold CU at e;cases ec:at_ L' n with
 | none=>simp only [ec] at e;cases e
 | some c=>?_
 cases c with
 | lst xs=>?_
 | _=>simp only [ec] at e;cases e
 simp only [ec] at e;unfold b8 at e;split at e
 case isFalse=>cases e
 case isTrue hn =>
 obtain⟨p',hp',hcell⟩:=r.cells n _ ec;rw [hp] at hp';cases hp';generalize Oq:put L' n (.ref n)=Lp at e;have KC:Lp.length=L'.length:=by rw [<- Oq];exact vM
 unfold fin at e;split at e
 case isFalse=>cases e
 case isTrue ho =>
 have n0:L.length<=L'.length:=by have:=fO ec;omega
 cases ef:cf L.length Lp 9 (.lst xs) with
 | none=>rw [ef] at e;cases e
 | some t1=>?_
 rw [ef] at e;cases e;obtain⟨ys,rfl,KD,Tf⟩:=Dk ef;have KH:∀m c,m≠n->at_ Lp m=some c->at_ L' m=some c:=fun m c hm q=>by
  rw [<- Oq] at q;rcases pY q with⟨z,_⟩|⟨_,z⟩
  ·exact absurd z hm
  ·exact z
 have QM:∀c,at_ Lp n=some c->c=.ref n:=fun c q=>by
  rw [<- Oq] at q;rcases pY q with⟨_,z⟩|⟨z,_⟩
  ·exact z
  ·exact absurd rfl z
 let nw:VJ->Prop:=fun a=>∃m q,L.length<=m/\m≠n/\at_ g'.α m=some q/\(a=q.1\/a=q.2)
 let da:G:={ g' with H:=fun a=>if nw a then (g'.H a).map fun q=>(true,q.2) else g'.H a,α:=p::g'.α.drop (g'.α.length - L.length) }
 have hH:∀a,da.H a=if nw a then (g'.H a).map fun q=>(true,q.2) else g'.H a:=fun _=>rfl
 have dl:(g'.α.drop (g'.α.length - L.length)).length=L.length:=by rw [VM,r.len];omega
 have dL:(Lp.drop (Lp.length - L.length)).length=L.length:=by rw [VM,KC];omega
 have hα:∀m,m<L.length->at_ da.α m=at_ g'.α m:=fun m hm=>by
  have:at_ (p::g'.α.drop (g'.α.length - L.length)) m=at_ (g'.α.drop (g'.α.length - L.length)) m:=if_neg (by rw [dl];omega)
  exact this.trans (jS hm (by rw [r.len];exact n0))
 have Ot:at_ da.α L.length=some p:=by
  have:at_ (p::g'.α.drop (g'.α.length - L.length)) (g'.α.drop (g'.α.length - L.length)).length=some p:=fk
  rw [dl] at this;exact this
 have Hj:∀a o,g'.H a=some (true,o)->da.H a=some (true,o):=fun a o q=>by
  rw [hH];split
  ·rw [q];rfl
  ·exact q
 have oE:∀a o,g'.kn true a o->da.kn true a o:=fun a o q=>q.elim (fun q=>.inl (Hj a o q)) .inr
 have ug:∀m p b o,L.length<=m->m≠n->at_ g'.α m=some p->(b=p.1\/b=p.2)->g'.kn false b o->da.kn true b o:=fun m p b o hm hne hp hb q=>by
  rcases q with q|⟨z,_⟩
  ·refine .inl ?_
   rw [hH,if_pos ⟨m,p,hm,hne,hp,hb⟩,q];rfl
  ·cases z
 have hr:∀m p,m<L.length->at_ g'.α m=some p->at_ da.α m=some p:=fun m p hm hp=>(hα m hm).trans hp
 have yK:∀m p,m<L.length\/m=n->at_ g'.α m=some p->¬ nw p.1/\¬ nw p.2:=fun m p hm hp=>by
  refine⟨?_,?_⟩ <;>
  ·rintro⟨m',q,hm',hne,hq,hb⟩
   have ap:=r.apart m m' p q hp hq (by omega);rcases hb with hb|hb
   ·first|exact ap.1 hb|exact ap.2.2.1 hb
   ·first|exact ap.2.1 hb|exact ap.2.2.2 hb
 have EE:∀m p b o,m<L.length\/m=n->at_ g'.α m=some p->(b=p.1\/b=p.2)->g'.kn false b o->da.kn false b o:=fun m p b o hm hp hb hk=>by
  have no:=yK m p hm hp;rcases hk with hk|⟨z,_⟩
  ·refine .inl ?_
   rw [hH,if_neg (by rcases hb with hb|hb <;> rw [hb];exact no.1;exact no.2)];exact hk
  ·cases z
 have hc:∀m c,L.length<=m->at_ Lp m=some c->(∀k,cf L.length Lp k c=none)\/∃p,at_ g'.α m=some p/\RT g' (some p) c (.ref p.1)/\∀b o,(b=p.1\/b=p.2)->g'.kn false b o->da.kn true b o:=fun m c hm q=>by
  by_cases z:m=n
  ·subst z
   rw [QM c q];exact .inl (sF hn QM)
  ·obtain⟨p1,q1,q2⟩:=r.cells m c (KH m c z q)
   exact .inr ⟨p1,q1,q2,fun b o hb=>ug m p1 b o hm z q1 hb⟩
 have top:RT da (some p) (.lst ys) (.ref p.1):=by
  cases hcell with
  | lst ht hk hz hl hi =>
   have hk':=EE n p _ _ (.inr rfl) hp (.inl rfl) hk;refine .lst ht hk' (by rw [<- KD];exact hz) (by rw [<- KD];exact hl) fun i y v q1 q2=>?_
   obtain⟨x,x1,x2⟩:=Tf i y q1;exact gO hr oE hc rfl rfl _ (hi i x v x1 q2) (fun q z=>by cases z) x2
 have Ou:∀m c,m<L.length->at_ (Lp.drop (Lp.length - L.length)) m=some c->∃p,at_ da.α m=some p/\RT da (some p) c (.ref p.1):=fun m c hm q=>by
  have q':at_ L' m=some c:=KH m c (by omega) ((jS hm (by rw [KC];exact n0)).symm.trans q)
  obtain⟨p1,h1,h2⟩:=r.cells m c q';have bQ:M.lt L.length c=true:=by
   rcases ho m c q with z|z
   ·obtain⟨p0,_,z2⟩:=r0.cells m c z
    rw [<- r0.len];exact z2.lt
   ·exact z
  refine⟨p1,hr m p1 hm h1,h2.re hr oE rfl rfl bQ (fun z=>by cases z) fun a d b o ht hb hk=>⟨ht,?_⟩⟩;rcases ht with z|z
  ·cases z
  ·cases z
   exact EE m _ b o (.inl hm) h1 hb hk
 have Aq:∀m q,at_ da.α m=some q->∃m',at_ g'.α m'=some q/\((m<L.length/\m'=m)\/(m=L.length/\m'=n)):=fun m q z=>by
  have hm:m<L.length+1:=by have:=fO z;have:m<(p::g'.α.drop (g'.α.length - L.length)).length:=this;rw [Vb,dl] at this;exact this
  by_cases zz:m=L.length
  ·subst zz;rw [Ot] at z;cases z;exact⟨n,hp,.inr ⟨rfl,rfl⟩⟩
  ·have hm:m<L.length:=by omega
   exact⟨m,(hα m hm).symm.trans z,.inl ⟨hm,rfl⟩⟩
 refine⟨da,⟨fun a o q=>Hj a o (l.f a o q),fun m p q=>hr m p (by rw [<- r0.len];exact fO q) (l.α m p q),l.B,l.m,l.w⟩,⟨?_,fun m c q=>?_,fun m m' q q' h1 h2 hne=>?_,fun m q z=>?_⟩,.ref Ot,fun a b o q=>?_,fun a q=>?_,Hj⟩
 ·show(p::g'.α.drop _).length=_
  rw [Vb,Vb,dl,dL]
 ·unfold at_ at q
  split at q
  ·rename_i em
   cases q;rw [dL] at em;subst em;exact⟨p,Ot,top⟩
  ·exact Ou m c (by have:=fO q;rw [dL] at this;exact this) q
 ·obtain⟨a,a1,a2⟩:=Aq m q h1
  obtain⟨b,b1,b2⟩:=Aq m' q' h2;exact r.apart a b q q' a1 b1 (by omega)
 ·obtain⟨a,a1,a2⟩:=Aq m q z
  obtain⟨⟨o1,h1⟩,o2,h2⟩:=r.live a q a1;have no:=yK a q (by omega) a1
  exact⟨⟨o1,by rw [hH,if_neg no.1];exact h1⟩,o2,by rw [hH,if_neg no.2];exact h2⟩
 ·rw [hH] at q
  split at q
  ·obtain⟨z,z1,z2⟩:=Vj.mp q
   cases z2;exact⟨z.1,z1⟩
  ·exact⟨b,q⟩
 ·rw [hH,q];split <;> rfl
section
variable {P:Wh} {w:Xg} {K:VD} {mg:Str->Option U8} {cls:Str->Option VJ} {base:Heap} {N ps:List Str} {qual:Str} {scope:Scope} {f:VJ} {g:G} {L:aa}
theorem Hk {k:Nat} {name:Str} {params:Arguments} {body:List Stmt} {dV kV doc pm gP ct oc:U8} {an od:Option VJ} {tV:Array (Option U8)} {mb:SS} (lk:K.lookup f=some ⟨oc,od,.func (W3 name qual params body scope dV kV doc pm an gP ct),tV⟩) (hcd:XM K gP qual=true) (S:mG N ps scope)
  (yP:∀us:List U8,us.length=ps.length->bindArgs (W3 name qual params body scope dV kV doc pm an gP ct) ⟨us,[]⟩=pure (ps.zip us))
  (jT:∀(A:VZ) (s:Vc) (H:Hp),fG k (A.deeper (envOfC qual scope s.heap.objs.size f gP))->yr (yN P w K mg cls base N qual scope f gP A s H) body mb) :
  fH P w K mg cls base (k+1) f (xy ps.length N.length mb):=fun {A s g L L' us xs t} hr e0 r oF=>by
 unfold xy at oF;split at oF
 ·rename_i hl
  have Nj:us.length=ps.length:=by rw [<- Vr r];exact hl
  have KX:K.In s.heap:=e0.mod.IL.keeps fun b o e=>(e0.bs b o e).1
  have lim:s.heap.NoLimit:=e0.mod.nolimit.keeps fun b o e=>(e0.bs b o e).1
  have hkind:∀y∈ps.zip us,scope.names.lookup y.1=some .local\/(scope.names.lookup y.1=some .cell/\((cellsFrom (s.heap.objs.size+1) scope.names []).lookup y.1).isSome=true):=fun⟨n,v⟩ hy=>by
   rcases S.par n (XX hy).1 with q|q
   ·exact .inl q
   ·exact .inr ⟨q,YH _ _ _ (.inl q)⟩
  refine codeAny_call_function hr.depth (KX _ _ lk) rfl S.co S.gen rfl (aaS KX hcd) (BindsTo.of_eq (yP us Nj) _ _ _ _ ?_);refine wpAny_newFunctionEnv_cells S.kind hkind fun env he s1 x=>?_
  subst he;refine⟨lim.keeps x.toInCall.keep,codeAny_func ?_⟩;have I:=oZ (A:=A) (cd:=gP) S hr.hd e0 hl r x
  have nb:mb (xs.map some++VI (N.length - ps.length) none) L≠.bad:=fun z=>by rw [z] at oF;cases oF
  refine wpAny_mono (jT A s g.H (hr.deeper _) I nb) (fun fl s' ⟨g',l,hs⟩=>?_) fun e s' hs=>hs.elim
  cases eb:mb (xs.map some++VI (N.length - ps.length) none) L with
  | rt t0 L1 =>
   rw [eb] at hs oF;cases fl <;> first|exact hs.elim|skip
   obtain⟨⟨φ',J⟩,rt⟩:=hs;obtain⟨g2,l2,r2,h2,a,b,c⟩:=Dl l e0.rel J.rel rt oF;exact⟨g2,J.os,J.bare,⟨J.base.keep,fun x o q n z=>b x (J.base.free x o q n z),fun x o q=>c x o (J.base.cf x o q)⟩,fun x y o q=>let ⟨_,z⟩:=a x y o q;J.hok x _ o z,l2,r2,h2⟩
  | _=>rw [eb] at oF;cases oF
 ·cases oF
end
noncomputable def gW (s:Stmt):Arguments:=match s with
 | .FunctionDef _ a ..=>a
 | _=>⟨[],[],none,[],[],none,[]⟩
noncomputable def bodyOf (s:Stmt):List Stmt:=match s with
 | .FunctionDef _ _ b ..=>b
 | _=>[]
noncomputable def gG (s:Stmt):Scope:=match s with
 | .FunctionDef _ _ _ _ _ _ sc ..=>sc
 | _=>⟨.function,[],false,false,[]⟩
noncomputable def KI:NameKind->Bool
 | .local=>true
 | .cell=>true
 | _=>false
noncomputable def Ar (ps:List Str) (sc:Scope):List Str:=ps++((sc.names.filter fun y=>KI y.2).map (·.1)).filter fun y=>!ps.contains y
noncomputable def As (ps:List Str) (sc:Scope):Bool:=(match sc.kind with
  | .function=>true
  | _=>false) && !sc.isCoroutine && !sc.isGenerator && decide (Ar ps sc).Nodup && (ps.all fun x=>match sc.names.lookup x with
  | some k=>KI k
  | none=>false) && (sc.names.all fun y=>match y.2 with
  | .free=>false
  | _=>true) && (Ar ps sc).all zN
structure uY (K:VD) (x qual:Str) (st:Stmt) (f:VJ):Prop where
 ex:∃(oc:U8) (od:Option VJ) (kV doc pm:U8) (an:Option VJ) (gP ct:U8) (tV:Array (Option U8)),K.lookup f=some ⟨oc,od,.func (W3 x qual (gW st) (bodyOf st) (gG st) .none kV doc pm an gP ct),tV⟩/\XM K gP qual=true
 kp:Wj K (.ref f)=true
structure Tab (P:Wh) (w:Xg) (K:VD) (mg:Str->Option U8) (cls:Str->Option VJ) (base:Heap) (n:Nat) (Γ:Ct):Prop where
 fn:∀x F,Γ.fn.lookup x=some F->(x == ("__debug__":Str))=false/\∃fa,fH P w K mg cls base n fa F/\mg x=some (.ref fa)/\Wj K (.ref fa)=true
 co:∀x t,Γ.co.lookup x=some t->(x == ("__debug__":Str))=false/\∃u,mg x=some u/\∀g:G,g.B=base->g.cls=cls->g.w=w->RT g none t u
 us:∀x∈Γ.us,mg x=none/\x≠"__name__"/\(x == ("__debug__":Str))=false
 fl:∀c C,cls c=some C->ClsOk K Γ.fl C
 me:∀m mf,Γ.me.lookup m=some mf->∀c C F,cls c=some C->mf.lookup c=some F->∃fa,Cj K C/\Meth K C m fa/\fH P w K mg cls base n fa F
noncomputable def Ct.xO (Γ:Ct) (x:Str) (F:Fn):Ct:={ Γ with fn:=(x,F)::Γ.fn }
noncomputable def Ct.Au (Γ:Ct) (m c:Str) (F:Fn):Ct:={ Γ with me:=(m,(c,F)::(Γ.me.lookup m).getD [])::Γ.me }
section
variable {P:Wh} {w:Xg} {K:VD} {mg:Str->Option U8} {cls:Str->Option VJ} {base:Heap} {n:Nat} {Γ:Ct} {x qual:Str} {st:Stmt} {f:VJ} {ps:List Str} {m F:Fn}
theorem fH.mono {j k:Nat} (h:fH P w K mg cls base j f m) (l:j<=k):fH P w K mg cls base k f m:=fun {_ _ _ _ _ _ _ _} hr e r q=>h (hr.mono l) e r q
theorem Tab.ct {X:Cx} (T:Tab P w K mg cls base n Γ) (h:X.prog=P/\X.w=w/\X.K=K/\X.mg=mg/\X.cls=cls/\X.base=base) (hr:fG n X.A):eE X Γ:=by
 obtain⟨rfl,rfl,rfl,rfl,rfl,rfl⟩:=h;refine⟨?_,fun x F q=>?_,T.co,T.us,T.fl,fun m mf q c C F hc hF=>?_⟩
 ·have:=hr.un;omega
 ·obtain⟨h1,fa,h2,h3,h4⟩:=T.fn x F q
  exact⟨h1,n,fa,h2,hr,h3,h4⟩
 ·obtain⟨fa,h1,h2,h3⟩:=T.me m mf q c C F hc hF
  exact⟨fa,n,h1,h2,h3,hr⟩
theorem wF (h:As ps sc=true):mG (Ar ps sc) ps sc/\(Ar ps sc).all zN=true:=by
 unfold As at h;simp only [Ve] at h;obtain⟨⟨⟨⟨⟨⟨h1,h2⟩,h3⟩,h4⟩,h5⟩,h6⟩,h7⟩:=h;refine⟨⟨?_,by simpa using h2,by simpa using h3,of_decide_eq_true h4,by simp [Ar],fun x hx=>?_,fun y hy e=>?_⟩,h7⟩
 ·split at h1
  ·assumption
  ·cases h1
 ·have:=U7.mp h5 x hx
  cases e:sc.names.lookup x with
  | none=>rw [e] at this;cases this
  | some k =>
   rw [e] at this;cases k <;> first|exact .inl rfl|exact .inr rfl|cases this
 ·have:=U7.mp h6 y hy
  rw [e] at this;cases this
noncomputable def Dn (rn:Nat->Nat->SS->Fn) (Γ:Ct) (ps:List Str) (st:Stmt) (m:Fn):Prop:=As ps (gG st)=true/\rn ps.length (Ar ps (gG st)).length (code Γ ⟨Ar ps (gG st),gG st⟩ (bodyOf st))=m
theorem Tab.Ov (T:Tab P w K mg cls base n Γ) (F:uY K x qual st f)
  (e:Dn run Γ ps st m)
  (hb:∀(kV doc pm:U8) (an:Option VJ) (gP ct:U8) (us:List U8),us.length=ps.length->bindArgs (W3 x qual (gW st) (bodyOf st) (gG st) .none kV doc pm an gP ct) ⟨us,[]⟩=pure (ps.zip us)):fH P w K mg cls base (n+1) f m:=by
 obtain⟨ok,e⟩:=e;subst e;obtain⟨oc,od,kV,doc,pm,an,gP,ct,tV,l,c⟩:=F.ex;obtain⟨S,nm⟩:=wF ok;refine JF l c S (hb kV doc pm an gP ct) fun A s H hr=>wC (T.ct ⟨rfl,rfl,rfl,rfl,rfl,rfl⟩ hr) ⟨rfl,S.nd,nm,fun _ h=>h,fun _ h=>⟨h,rfl⟩,fun x h=>absurd rfl (S.ux (x,.free) (VQ h)),fun _ h=>h⟩ _
theorem Tab.KJ (T:Tab P w K mg cls base n Γ) (F:uY K x qual st f)
  (e:Dn xy Γ ps st m)
  (hb:∀(kV doc pm:U8) (an:Option VJ) (gP ct:U8) (us:List U8),us.length=ps.length->bindArgs (W3 x qual (gW st) (bodyOf st) (gG st) .none kV doc pm an gP ct) ⟨us,[]⟩=pure (ps.zip us)):fH P w K mg cls base (n+1) f m:=by
 obtain⟨ok,e⟩:=e;subst e;obtain⟨oc,od,kV,doc,pm,an,gP,ct,tV,l,c⟩:=F.ex;obtain⟨S,nm⟩:=wF ok;refine Hk l c S (hb kV doc pm an gP ct) fun A s H hr=>wC (T.ct ⟨rfl,rfl,rfl,rfl,rfl,rfl⟩ hr) ⟨rfl,S.nd,nm,fun _ h=>h,fun _ h=>⟨h,rfl⟩,fun x h=>absurd rfl (S.ux (x,.free) (VQ h)),fun _ h=>h⟩ _
theorem Tab.add (T:Tab P w K mg cls base n Γ) (hF:fH P w K mg cls base (n+1) f m) (hm:mg x=some (.ref f)) (hk:Wj K (.ref f)=true) (hd:(x == ("__debug__":Str))=false):Tab P w K mg cls base (n+1) (Γ.xO x m):=by
 refine⟨fun y F q=>?_,T.co,T.us,T.fl,fun m mf q c C F hc hF=>let ⟨fa,h1,h2,h3⟩:=T.me m mf q c C F hc hF;⟨fa,h1,h2,h3.mono (Xe n)⟩⟩;have z:Z0 y ((x,m)::Γ.fn)=some F:=q
 clear q;rw [Vy] at z;split at z
 ·rename_i e
  have:=eq_of_beq e;subst this;cases z;exact⟨hd,f,hF,hm,hk⟩
 ·obtain⟨h1,fa,h2,h3⟩:=T.fn y F z
  exact⟨h1,fa,h2.mono (Xe n),h3⟩
theorem Tab.Au {c y:Str} {C:VJ} (T:Tab P w K mg cls base n Γ) (hF:fH P w K mg cls base (n+1) f m) (hc:cls c=some C) (h1:Cj K C) (h2:Meth K C y f):Tab P w K mg cls base (n+1) (Γ.Au y c m):=by
 refine⟨fun y F q=>let ⟨h1,fa,h2,h3⟩:=T.fn y F q;⟨h1,fa,h2.mono (Xe n),h3⟩,T.co,T.us,T.fl,fun y' mf q c' C' F hc' hF'=>?_⟩;have z:Z0 y' ((y,(c,m)::(Γ.me.lookup y).getD [])::Γ.me)=some mf:=q
 clear q;have old:∀mf,Γ.me.lookup y'=some mf->mf.lookup c'=some F->∃fa,Cj K C'/\Meth K C' y' fa/\fH P w K mg cls base (n+1) fa F:=fun mf q z =>
  let ⟨fa,h1,h2,h3⟩:=T.me y' mf q c' C' F hc' z;⟨fa,h1,h2,h3.mono (Xe n)⟩
 rw [Vy] at z;split at z
 ·rename_i e
  have:=eq_of_beq e;subst this;cases z;rw [Vy] at hF';split at hF'
  ·rename_i e2
   have:=eq_of_beq e2;subst this;cases hF';rw [hc] at hc';cases hc';exact⟨f,h1,h2,hF⟩
  ·cases eo:Γ.me.lookup y' with
   | none=>rw [eo] at hF';cases hF'
   | some mf=>rw [eo] at hF';exact old mf eo hF'
 ·exact old mf z hF'
theorem sG:∀{g:G} {vs:List U8} {ns:List Int},IntsAre vs ns->cG g (ns.map T.int) vs
 | _,_,_,.nil=>.nil
 | _,_,_,.cons n t h=>.cons (.int n t) (sG h)
theorem Av {mb:Str->Option U8} {k:Nat} {fa a:VJ} {s₁:Vc} {vs:List U8} {ns:List Int}
  (KX:K.In s₁.heap) (EF:s₁.heap.Ns VX mg) (hb:s₁.heap.Ns builtinsNs mb) (Th:∀x:Str,x≠"__name__"->mb x=bootBuiltins x) (Ow:s₁.heap.NoLimit) (hg:s₁.gens = #[])
  (ha:s₁.heap.get? a=some { cls:=.type "list",data:=.seq vs.toArray }) (hi:IntsAre vs ns) (hl:ns.length<=Vz) (hr:fG k callerA)
  (hF:fH P w K mg cls s₁.heap k fa m) (hm:∃L',m [.lst (ns.map .int)] []=.ok (.bl true) L') :
  codeAny (model P w) callerA (.call (.ref fa) ⟨[.ref a],[]⟩) (fun r s'=>r=.ok (.ret (.bool true))/\OldK s₁.heap s'.heap/\s'.os=s₁.os/\AllBare s'.gens) s₁:=by
 obtain⟨L',hm⟩:=hm
 let g:G:=⟨fun _=>none,[],s₁.heap,cls,w⟩
 have r:cG g [.lst (ns.map T.int)] [.ref a]:=.cons ((sG hi).lst (o:=default) (Le.refl g) (.inl rfl) (.inr ⟨rfl,ha⟩) (by simpa using hl)) .nil;have e0:xp P w K mg cls s₁.heap s₁ g []:=⟨⟨KX,EF,⟨mb,hb,Th⟩,Ow⟩,fun b o e=>⟨e,rfl⟩,Vm _,fun a b o z=>(by cases z),.of_eq hg,⟨rfl,fun n c z=>(by cases z),fun n m p q z=>(by cases z),fun n p z=>(by cases z)⟩,rfl,rfl,rfl⟩
 refine codeAny_mono (hF hr e0 r hm) fun r s' h=>?_
 cases r with
 | error e=>exact ZJ h
 | ok fl =>
  cases fl with
  | ret u =>
   obtain⟨g',os,bare,un,hok,l,rel,rt⟩:=h;cases rt;exact⟨rfl,OldK.of_keep fun b o e=>un.keep b o e rfl (by simp),os,bare⟩
  | _=>exact ZJ h
end
end M
namespace QN
open PySem PySem.W PySem.Calls PyProof.Rows
theorem mw {P:Params} {h:Heap}:∀(ns:List Int) (vs:List U8),WellAll P h vs (ns.map WData.int)->IntsAre vs ns:=by
 intro ns;induction ns with
 | nil =>
  intro vs w;rw [V7] at w;cases w;exact .nil
 | cons n ns ih =>
  intro vs w;rw [Vg] at w;cases w with
  | cons a b =>
   cases a;exact .cons _ _ (ih _ b)
theorem xP {l:OpenLaw} {n:Nat} (hn:l.most=some n) {P:Params} {h:Heap} {args:List WData} {vals:List U8}
  (hpre:l.row.toRowW.claim.pre args=true) (hwl:WellAll P h vals args) :
  ∃a vs ns,vals=[W5 a]/\args=[WData.list (ns.map WData.int)]/\h.get? a=some { cls:=.type "list",data:=.seq vs.toArray }/\IntsAre vs ns/\ns.length<=n:=by
 have Ti:WShape.hasAll [] args [.list .int]=true:=(pre_splitW hpre).1;have hc:l.pre.holds [] { args:=args }=true:=(pre_splitW hpre).2
 obtain⟨d,r,rfl,h1,h2⟩:=hasAllW_cons Ti;obtain rfl:=hasAllW_nil h2;obtain⟨xs,rfl,h3⟩:=hasW_list h1;obtain⟨ns,rfl⟩:=items_int h3;have hlen:ns.length<=n:=by
  unfold OpenLaw.pre at hc;have h4:(WTm.not (.lt (.lit (.int (n:Int))) (.len (.arg 0)))).holds [] { args:=[.list (ns.map .int)] }=true:=by
   have h4:=(holds_andW hc).1;rw [hn] at h4;exact h4
  have h5:=condW_of h4 (w_not (w_lt w_lit (w_len_list (w_arg rfl))));rw [Lm9] at h5;refine Nat.le_of_not_lt fun q=>?_
  have q':(n:Int)<((ns.length:Nat):Int):=by omega
  first
   | (rw [decide_eq_true q'] at h5;exact absurd h5 (by decide))
   | (simp at h5;omega)
 cases hwl with
 | cons w1 w2 =>
  cases w2;cases w1 with
  | list ho hall=>exact⟨_,_,ns,rfl,rfl,ho,mw ns _ hall,hlen⟩
theorem xQ (l:OpenLaw) (args:List WData):l.row.toRowW.claim.post args (.bool true) args=true :=
 postW_of (r:=l.row.toRowW) (X:=(true == true))
  (show WShape.has [] (.bool true) .bool=true by first|rfl|decide|simp [WShape.has,WShape.arms,WShape.armsAll])
  (show(WTm.eq .res (.lit (.bool true))).value [] { args:=args,res:=some (.bool true),after:=args }=some (.bool (true == true)) from w_eq_bool (w_res rfl) w_lit) rfl
theorem sH {l:OpenLaw} {n:Nat} {q:Wh} {loose:List Str} {XP:(Str->Option U8)->Heap->Prop} {YP:Xg->Heap->Prop} {d:DefRec}
  (hn:l.most=some n) (Ox:d.params.defaults=[])
  (call:∀(w:Xg) (s₀ s₁:Vc) (mg mb:Str->Option U8) (fa:VJ) (o:Obj) (pm cd doc:U8) (a:VJ) (vs:List U8) (ns:List Int),
   Ground q loose [] XP w s₀ mg mb s₁.heap->YP w s₁.heap ->
   s₁.heap.get? fa=some o->o.data=.func (docDef d.name d.params d.body d.scope pm cd doc)->s₁.heap.CodeRec cd d.name->mg d.name=some (.ref fa) ->
   s₁.heap.get? a=some { cls:=.type "list",data:=.seq vs.toArray }->IntsAre vs ns->ns.length<=n->s₁.gens = #[] ->
   codeAny (model l.prog w) callerA (.call (.ref fa) ⟨[.ref a],[]⟩) (fun r s'=>r=.ok (.ret (.bool true))/\OldK s₁.heap s'.heap/\s'.os=s₁.os/\AllBare s'.gens) s₁) :
  WalkO q loose XP YP l.row.toRowW d [] (fun f vs=>PySem.call f vs):=by
 intro w s₀ s₁ mg mb G Y fa o pm cd doc dV kV ho hd hcd hD hmg hg args vals as hpre hlay hrd hwl hlo;obtain rfl:dV=.none:=Dflts.none hD Ox;obtain rfl:kV=.none:=Dflts.noKw hD;obtain⟨a,vs,ns,rfl,rfl,Hl,hints,hlen⟩:=xP hn hpre hwl;refine enter_call (codeAny_mono (call w s₀ s₁ mg mb fa o pm cd doc a vs ns G Y ho (fd_plain hd) hcd hmg Hl hints hlen hg) fun r s' hq=>?_);obtain⟨rfl,h2,h3,h4⟩:=hq;exact⟨.inl ⟨.bool true,.bool true,[],rfl,fun _=>rfl,.bool true,xQ l _,fun _=>⟨ZX,fun _ hm=>(nomatch hm)⟩⟩,h2,h3,h4⟩
end QN
namespace M
open PySem PySem.Spec PyProof.Rows
theorem Dm {l:PySem.W.OpenLaw} {n k:Nat} {q:Wh} {loose:List Str} {XP:(Str->Option U8)->Heap->Prop} {YP:Xg->Heap->Prop} {d:DefRec} {K:Params->VD} {m:Fn}
  (hn:l.most=some n) (xn:n<=Vz) (Ox:d.params.defaults=[]) (hr:fG k callerA) (hY:∀(w:Xg) (h:Heap),YP w h->(K w.params).In h)
  (F:∀(w:Xg) (mg:Str->Option U8) (fa:VJ) (h:Heap),(K w.params).In h->h.Ns VX mg->mg d.name=some (.ref fa)->∃cls,∀base:Heap,(K w.params).In base->base.Ns VX mg->fH l.prog w (K w.params) mg cls base k fa m)
  (hm:∀ns:List Int,ns.length<=n->∃L',m [.lst (ns.map .int)] []=.ok (.bl true) L'):PySem.W.WalkO q loose XP YP l.row.toRowW d [] (fun f vs=>PySem.call f vs):=by
 refine QN.sH hn Ox fun w s₀ s₁ mg mb fa o pm cd doc a vs ns G Y ho hd hcd hmg Hl hints hlen hg=>?_
 have KX:=hY w _ Y;obtain⟨cls,hF⟩:=F w mg fa _ KX G.T.g hmg;exact Av KX G.T.g G.T.b G.T.builtins G.T.nolimit hg Hl hints (Vt hlen xn) hr (hF _ KX G.T.g) (hm ns hlen)
theorem uZ {K:VD} {x qual:Str} {st:Stmt} {f:VJ} {oc:U8} {od an:Option VJ} {tV:Array (Option U8)} {kV doc pm gP ct:U8} (l:K.lookup f=some ⟨oc,od,.func (W3 x qual (gW st) (bodyOf st) (gG st) .none kV doc pm an gP ct),tV⟩)
  (c:XM K gP qual=true) (k:Wj K (.ref f)=true):uY K x qual st f:=⟨⟨oc,od,kV,doc,pm,an,gP,ct,tV,l,c⟩,k⟩
noncomputable def Oy (K:VD) (x:Str) (st:Stmt) (f:VJ):Prop:=Wm K VX x=some (some (.ref f))/\uY K x x st f
theorem b0 {Pr:List U8->Prop} (h:Pr []):∀us:List U8,us.length=0->Pr us:=fun us e=>by cases us;exact h;cases e
theorem bC {n:Nat} {Pr:List U8->Prop} (h:∀q us,us.length=n->Pr (q::us)):∀us:List U8,us.length=n+1->Pr us:=fun us e=>by
 cases us
 ·cases e
 ·exact h _ _ (Nat.succ.inj e)
section
variable {P:Wh} {w:Xg} {K:VD} {mg:Str->Option U8} {cls:Str->Option VJ} {base h:Heap} {n:Nat} {Γ:Ct} {x:Str} {st:Stmt} {f:VJ} {m:Fn}
theorem Tab.mono (T:Tab P w K mg cls base n Γ):Tab P w K mg cls base (n+1) Γ :=
 ⟨fun y F q=>let ⟨h1,fa,h2,h3⟩:=T.fn y F q;⟨h1,fa,h2.mono (Xe n),h3⟩,T.co,T.us,T.fl,fun m mf q c C F hc hF=>let ⟨fa,h1,h2,h3⟩:=T.me m mf q c C F hc hF;⟨fa,h1,h2,h3.mono (Xe n)⟩⟩
theorem Tab.Tj {cn:Str} {C:VJ} (T:Tab P w K mg cls base n Γ) (hF:fH P w K mg cls base (n+1) f m) (Q:Mk K C f) (hc:cls cn=some C) (hm:mg cn=some (.ref C)) (hd:(cn == ("__debug__":Str))=false):Tab P w K mg cls base (n+2) (Γ.xO cn (make cn m)) :=
 T.mono.add (JG Q hF hc) hm Q.kp hd
end
noncomputable def AllP {α:Type} (p:α->Prop):List α->Prop
 | []=>True
 | a::r=>p a/\AllP p r
theorem AllP.of {α:Type} {p:α->Prop}:∀{l:List α},AllP p l->∀a∈l,p a
 | _::_,h,a,m=>by
  rcases Vn.mp m with rfl|m
  ·exact h.1
  ·exact AllP.of h.2 a m
noncomputable def tp (B:List Stmt) (i:Nat):Stmt:=B.getD i (.Pass ⟨0,0,0,0⟩)
noncomputable def yg (s:Stmt) (j:Nat):Stmt:=match s with
 | .ClassDef _ _ _ b ..=>b.getD j (.Pass ⟨0,0,0,0⟩)
 | _=>s
noncomputable def qG (s:Stmt):List Str:=(gW s).args.map (·.arg)
mutual
noncomputable def yh (K:VD):T->U8->Prop
 | .bl b,u=>u=.bool b
 | .int i,u=>∃t,u=.int i t
 | .str s,u=>s.length<=Vz/\∃t,u=.str ⟨s.toArray⟩ t
 | .tup xs,u=>∃a us n s,u=.ref a/\K.lookup a=some ⟨.type "tuple",none,.seq us n,s⟩/\xs.length<=Vz/\gj K xs us.toList
 | _,_=>False
noncomputable def gj (K:VD):List T->List U8->Prop
 | [],us=>us=[]
 | x::xs,us=>∃v vs,us=v::vs/\yh K x v/\gj K xs vs
end
mutual
theorem yh.rt {K:VD} {g:G} (KB:K.In g.B):∀(t:T) (u:U8),yh K t u->RT g none t u
 | .bl b,u,h=>(show u=.bool b from h) ▸ .bl b
 | .int i,u,h=>by obtain⟨t,rfl⟩:∃t,u=.int i t:=h;exact .int i t
 | .str s,u,h=>by obtain⟨h,t,rfl⟩:s.length<=Vz/\∃t,u=.str ⟨s.toArray⟩ t:=h;exact .str s t h
 | .tup xs,u,h=>by
  obtain⟨a,us,n,s,rfl,l,hz,r⟩:∃a us n s,u=.ref a/\K.lookup a=some ⟨.type "tuple",none,.seq us n,s⟩/\xs.length<=Vz/\gj K xs us.toList:=h;exact cG.tup (us:=us.toList) (n:=n) (gj.rt KB xs _ r) (.refl _) (.inr ⟨rfl,KB _ _ l⟩) ⟨rfl,rfl⟩ (by simp) hz
 | .b7,_,h=>(show False from h).elim
 | .cl _,_,h=>(show False from h).elim
 | .ref _,_,h=>(show False from h).elim
 | .lst _,_,h=>(show False from h).elim
 | .aU _,_,h=>(show False from h).elim
 | .obj _ _,_,h=>(show False from h).elim
theorem gj.rt {K:VD} {g:G} (KB:K.In g.B):∀(xs:List T) (us:List U8),gj K xs us->cG g xs us
 | [],us,h=>(show us=[] from h) ▸ .nil
 | x::xs,us,h=>by
  obtain⟨v,vs,rfl,h1,h2⟩:∃v vs,us=v::vs/\yh K x v/\gj K xs vs:=h;exact .cons (yh.rt KB x v h1) (gj.rt KB xs vs h2)
end
inductive Df
 | f (b:Bool) (x:Str) (k i:Nat) (m:Fn)
 | mt (c y q:Str) (k i j:Nat) (m:Fn)
 | mk (c q:Str) (k i j:Nat) (m:Fn)
def QO:Bool->Nat->Nat->SS->Fn
 | true=>xy
 | false=>run
noncomputable def BA (k:Nat) (x q:Str) (st:Stmt):Prop:=∀(kV doc pm:U8) (an:Option VJ) (gP ct:U8) (us:List U8),us.length=k->bindArgs (W3 x q (gW st) (bodyOf st) (gG st) .none kV doc pm an gP ct) ⟨us,[]⟩=pure ((qG st).zip us)
structure Hm (b:Bool) (k:Nat) (Γ:Ct) (x q:Str) (st:Stmt) (m:Fn):Prop where
 d:(As (qG st) (gG st) && (qG st).length == k && !(x == ("__debug__":Str)))=true
 e:QO b k (Ar (qG st) (gG st)).length (code Γ ⟨Ar (qG st) (gG st),gG st⟩ (bodyOf st))=m
 a:BA k x q st
noncomputable def Df.ok (B:List Stmt) (Γ:Ct):Df->Prop
 | .f b x k i m=>Hm b k Γ x x (tp B i) m
 | .mt _ y q k i j m=>Hm false k Γ y q (yg (tp B i) j) m
 | .mk c q k i j m=>Hm false k Γ "__init__" q (yg (tp B i) j) m/\(c == ("__debug__":Str))=false
def Df.add (Γ:Ct):Df->Ct
 | .f _ x _ _ m=>Γ.xO x m
 | .mt c y _ _ _ _ m=>Γ.Au y c m
 | .mk c _ _ _ _ m=>Γ.xO c (make c m)
noncomputable def Df.n:Df->Nat
 | .mk ..=>2
 | _=>1
def adds:Ct->List Df->Ct
 | Γ,[]=>Γ
 | Γ,d::ds=>adds (d.add Γ) ds
noncomputable def dep:List Df->Nat
 | []=>0
 | d::ds=>d.n+dep ds
noncomputable def Aw (B:List Stmt):Ct->List Df->Prop
 | _,[]=>True
 | Γ,d::ds=>d.ok B Γ/\Aw B (d.add Γ) ds
noncomputable def EG (B:List Stmt) (K:VD) (cn:List Str):Df->Prop
 | .f _ x _ i _=>∃f,Oy K x (tp B i) f
 | .mt c y q _ i j _=>cn.contains c=true/\∃C f,Wm K VX c=some (some (.ref C))/\Wc K (.ref C) y=some (some (.ref f))/\Yu K (.ref f)=true/\uY K y q (yg (tp B i) j) f
 | .mk c q _ i j _=>cn.contains c=true/\∃C f,Wm K VX c=some (some (.ref C))/\Wc K (.ref C) "__init__"=some (some (.ref f))/\Yu K (.ref f)=true/\uY K "__init__" q (yg (tp B i) j) f
noncomputable def Hn (K:VD) (p:Str × T):Prop:=∃u,Wm K VX p.1=some (some u)/\yh K p.2 u
noncomputable def Oz (K:VD) (x:Str):Prop:=Wm K VX x=some none
noncomputable def Dp (K:VD) (fl:List Str) (c:Str):Prop:=∃C,Wm K VX c=some (some (.ref C))/\Cj K C/\Zb K C=true/\Wj K (.ref C)=true/\AllP (jx K C) fl
noncomputable def sJ (K:VD) (cn:List Str) (c:Str):Option VJ:=match cn.contains c,Wm K VX c with
 | true,some (some (.ref C))=>some C
 | _,_=>none
theorem wG {K:VD} {cn:List Str} {c:Str} {C:VJ} (h:cn.contains c=true) (e:Wm K VX c=some (some (.ref C))):sJ K cn c=some C:=by
 unfold sJ;rw [h,e]
theorem Ax {K:VD} {cn:List Str} {c:Str} {C:VJ} (h:sJ K cn c=some C):c∈cn/\Wm K VX c=some (some (.ref C)):=by
 unfold sJ at h;split at h
 ·rename_i h1 h2
  cases h;exact⟨by simpa using h1,h2⟩
 ·cases h
section
variable {P:Wh} {w:Xg} {K:VD} {mg:Str->Option U8} {base h:Heap} {B:List Stmt} {cn fl:List Str}
theorem Hm.fn {cls:Str->Option VJ} {n k:Nat} {Γ:Ct} {x q:Str} {st:Stmt} {f:VJ} {m:Fn} {b:Bool} (D:Hm b k Γ x q st m) (T:Tab P w K mg cls base n Γ) (F:uY K x q st f):fH P w K mg cls base (n+1) f m/\(x == ("__debug__":Str))=false:=by
 obtain⟨d,e,a⟩:=D;simp only [Ve,beq_iff_eq,ZZ] at d;obtain⟨⟨d,rfl⟩,d2⟩:=d;refine⟨?_,d2⟩;cases b with
 | true=>exact T.KJ F ⟨d,e⟩ a
 | false=>exact T.Ov F ⟨d,e⟩ a
theorem Tab.all (X:K.In h) (G:h.Ns VX mg) (hc:AllP (Dp K fl) cn):∀(ds:List Df) {n:Nat} {Γ:Ct},Tab P w K mg (sJ K cn) base n Γ->Aw B Γ ds->AllP (EG B K cn) ds->Tab P w K mg (sJ K cn) base (n+dep ds) (adds Γ ds)
 | [],_,_,T,_,_=>by exact T
 | .f b x k i m::ds,n,Γ,T,o,p=>by
  obtain⟨⟨f,F⟩,p⟩:=p;obtain⟨h1,h2⟩:=o.1.fn T F.2;have:=Tab.all X G hc ds (T.add h1 (aaW X G F.1) F.2.kp h2) o.2 p
  rw [X6] at this;exact this
 | .mt c y q k i j m::ds,n,Γ,T,o,p=>by
  obtain⟨⟨hm,C,f,e,fi,is,F⟩,p⟩:=p;obtain⟨C',e',ck,mk,kc,_⟩:=hc.of c (by simpa using hm);rw [e] at e';cases e';have:=Tab.all X G hc ds (T.Au (o.1.fn T F).1 (wG hm e) ck ⟨fi,is,F.kp⟩) o.2 p
  rw [X6] at this;exact this
 | .mk c q k i j m::ds,n,Γ,T,o,p=>by
  obtain⟨⟨hm,C,f,e,fi,is,F⟩,p⟩:=p;obtain⟨C',e',ck,mk,kc,_⟩:=hc.of c (by simpa using hm);rw [e] at e';cases e';have:=Tab.all X G hc ds (T.Tj (o.1.1.fn T F).1 ⟨mk,fi,is,kc⟩ (wG hm e) (aaW X G e) o.1.2) o.2 p
  rw [X6] at this;exact this
theorem Ho {fa:VJ} (B:List Stmt) (Γ:Ct) (cn:List Str) (ds:List Df) {k:Nat} {m:Fn} (X:K.In h) (G:h.Ns VX mg) (Tn:mg "law"=some (.ref fa)) (o:Aw B Γ ds) (hk:dep ds=k) (hm:(adds Γ ds).fn.lookup ("law":Str)=some m) (h0:Γ.fn=[]/\Γ.me=[])
  (hd:((Γ.co.all fun p=>!(p.1 == ("__debug__":Str))) && Γ.us.all fun x=>!(x == ("__debug__":Str)) && !(x == ("__name__":Str)))=true)
  (c1:AllP (Hn K) Γ.co) (c2:AllP (Oz K) Γ.us) (c3:AllP (Dp K Γ.fl) cn) (c4:AllP (EG B K cn) ds):∃cls,∀base:Heap,K.In base->base.Ns VX mg->fH P w K mg cls base k fa m:=by
 refine⟨sJ K cn,fun base KB _=>?_⟩;simp only [Ve,U7,ZZ] at hd;have T0:Tab P w K mg (sJ K cn) base 0 Γ:=by
  refine⟨fun x F q=>by(rw [h0.1] at q;cases q),fun x t q=>?_,fun x hx=>⟨PySem.W.mg_none_of X G (c2.of x hx),fun z=>?_,(hd.2 x hx).1⟩,fun c C e=>?_,fun y mf q=>by(rw [h0.2] at q;cases q)⟩
  ·have hm:=VQ q
   obtain⟨u,h1,h2⟩:=c1.of _ hm;exact⟨hd.1 _ hm,u,aaW X G h1,fun g hB _ _=>h2.rt (by rw [hB];exact KB)⟩
  ·have:=(hd.2 x hx).2;rw [z] at this;exact absurd this (by decide)
  ·obtain⟨h1,h2⟩:=Ax e
   obtain⟨C',e',ck,_,_,na⟩:=c3.of c h1;rw [h2] at e';cases e';exact⟨ck,na.of⟩
 have T:=Tab.all X G c3 ds T0 o c4;rw [Nat.zero_add,hk] at T;obtain⟨_,UT,h1,h2,_⟩:=T.fn _ _ hm;rw [Tn] at h2;cases h2;exact fun {_ _ _ _ _ _ _ _} a b c d=>h1 a b c d
theorem KL {α:Type} {p:α->Prop}:AllP p []:=trivial
theorem OA {Γ:Ct}:Aw B Γ []:=trivial
theorem OB {x:Str} {l:List Str} (h:Wm K VX x=some none) (r:AllP (Oz K) l):AllP (Oz K) (x::l):=⟨h,r⟩
theorem OC {C:VJ} {x:Str} {l:List Str} (h:Wc K (.ref C) x=some none) (r:AllP (jx K C) l):AllP (jx K C) (x::l):=⟨h,r⟩
theorem OD {x:Str} {C:VJ} {l:List Str} (h:Wm K VX x=some (some (.ref C))) (pg:Yn K C Str.empty=true) (hd:YL K C=true) (po:ZI K C=true) (sa:Wc K (.ref C) "__setattr__"=some (some (.builtin "object.__setattr__"))) (mk:Zb K C=true) (kc:Wj K (.ref C)=true) (na:AllP (jx K C) fl) (r:AllP (Dp K fl) l):AllP (Dp K fl) (x::l):=⟨⟨C,h,⟨pg,hd,po,sa⟩,mk,kc,na⟩,r⟩
theorem OE {x:Str} {b:Bool} {k i:Nat} {m:Fn} {ds:List Df} {f:VJ} {oc:U8} {od an:Option VJ} {tV:Array (Option U8)} {kV doc pm gP ct:U8} (n:Wm K VX x=some (some (.ref f))) (l:K.lookup f=some ⟨oc,od,.func (W3 x x (gW (tp B i)) (bodyOf (tp B i)) (gG (tp B i)) .none kV doc pm an gP ct),tV⟩)
  (c:XM K gP x=true) (kp:Wj K (.ref f)=true) (r:AllP (EG B K cn) ds):AllP (EG B K cn) (.f b x k i m::ds):=⟨⟨f,n,uZ l c kp⟩,r⟩
theorem KN {cl y q:Str} {k i j:Nat} {m:Fn} {ds:List Df} {C f:VJ} {oc:U8} {od an:Option VJ} {tV:Array (Option U8)} {kV doc pm gP ct:U8} (n:Wm K VX cl=some (some (.ref C))) (fi:Wc K (.ref C) y=some (some (.ref f))) (is:Yu K (.ref f)=true) (l:K.lookup f=some ⟨oc,od,.func (W3 y q (gW (yg (tp B i) j)) (bodyOf (yg (tp B i) j)) (gG (yg (tp B i) j)) .none kV doc pm an gP ct),tV⟩)
  (c:XM K gP q=true) (kp:Wj K (.ref f)=true) (hc:cn.contains cl=true) (r:AllP (EG B K cn) ds):AllP (EG B K cn) (.mt cl y q k i j m::ds):=⟨⟨hc,C,f,n,fi,is,uZ l c kp⟩,r⟩
theorem KO {cl q:Str} {k i j:Nat} {m:Fn} {ds:List Df} {C f:VJ} {oc:U8} {od an:Option VJ} {tV:Array (Option U8)} {kV doc pm gP ct:U8} (n:Wm K VX cl=some (some (.ref C))) (fi:Wc K (.ref C) "__init__"=some (some (.ref f))) (is:Yu K (.ref f)=true) (l:K.lookup f=some ⟨oc,od,.func (W3 "__init__" q (gW (yg (tp B i) j)) (bodyOf (yg (tp B i) j)) (gG (yg (tp B i) j)) .none kV doc pm an gP ct),tV⟩)
  (c:XM K gP q=true) (kp:Wj K (.ref f)=true) (hc:cn.contains cl=true) (r:AllP (EG B K cn) ds):AllP (EG B K cn) (.mk cl q k i j m::ds):=⟨⟨hc,C,f,n,fi,is,uZ l c kp⟩,r⟩
theorem xR {Γ:Ct} {b:Bool} {x:Str} {k i:Nat} {m:Fn} {ds:List Df} (r:Aw B (Γ.xO x m) ds) (d:(As (qG (tp B i)) (gG (tp B i)) && (qG (tp B i)).length == k && !(x == ("__debug__":Str)))=true:=by decide +kernel) (e:QO b k (Ar (qG (tp B i)) (gG (tp B i))).length (code Γ ⟨Ar (qG (tp B i)) (gG (tp B i)),gG (tp B i)⟩ (bodyOf (tp B i)))=m:=by kernel_rfl) (a:BA k x x (tp B i):=by intro _ _ _ _ _ _;(repeat refine bC fun _=>?_);exact b0 (by kernel_rfl)):Aw B Γ (.f b x k i m::ds):=⟨⟨d,e,a⟩,r⟩
theorem KP {Γ:Ct} {c y q:Str} {k i j:Nat} {m:Fn} {ds:List Df} (r:Aw B (Γ.Au y c m) ds) (D:Hm false k Γ y q (yg (tp B i) j) m:=by exact⟨by decide +kernel,by kernel_rfl,by intro _ _ _ _ _ _;(repeat refine bC fun _=>?_);exact b0 (by kernel_rfl)⟩):Aw B Γ (.mt c y q k i j m::ds):=⟨D,r⟩
theorem KQ {Γ:Ct} {c q:Str} {k i j:Nat} {m:Fn} {ds:List Df} (r:Aw B (Γ.xO c (make c m)) ds) (D:Hm false k Γ "__init__" q (yg (tp B i) j) m:=by exact⟨by decide +kernel,by kernel_rfl,by intro _ _ _ _ _ _;(repeat refine bC fun _=>?_);exact b0 (by kernel_rfl)⟩) (h:(c == ("__debug__":Str))=false:=by decide):Aw B Γ (.mk c q k i j m::ds):=⟨⟨D,h⟩,r⟩
theorem Ay {x:Str} {s:Cs} {t:Tok} {l:List (Str × T)} (h:Wm K VX x=some (some (.str ⟨s.toArray⟩ t))) (z:s.length<=Vz) (r:AllP (Hn K) l):AllP (Hn K) ((x,.str s)::l):=⟨⟨_,h,by rw [yh];exact⟨z,t,rfl⟩⟩,r⟩
theorem OG {x:Str} {i:Int} {t:Tok} {l:List (Str × T)} (h:Wm K VX x=some (some (.int i t))) (r:AllP (Hn K) l):AllP (Hn K) ((x,.int i)::l):=⟨⟨_,h,by rw [yh];exact⟨t,rfl⟩⟩,r⟩
theorem Dq {x:Str} {xs:List T} {a:VJ} {us:Array U8} {n:Nat} {s:Array (Option U8)} {l:List (Str × T)} (h:Wm K VX x=some (some (.ref a))) (e:K.lookup a=some ⟨.type "tuple",none,.seq us n,s⟩) (z:xs.length<=Vz) (q:gj K xs us.toList) (r:AllP (Hn K) l):AllP (Hn K) ((x,.tup xs)::l):=⟨⟨_,h,by rw [yh];exact⟨a,us,n,s,rfl,e,z,q⟩⟩,r⟩
theorem u0:gj K [] []:=by rw [gj]
theorem mx {s:Cs} {t:Tok} {xs:List T} {vs:List U8} (z:s.length<=Vz) (q:gj K xs vs):gj K (.str s::xs) (.str ⟨s.toArray⟩ t::vs):=by rw [gj];exact⟨_,_,rfl,by rw [yh];exact⟨z,t,rfl⟩,q⟩
theorem OH {b:Bool} {xs:List T} {vs:List U8} (q:gj K xs vs):gj K (.bl b::xs) (.bool b::vs):=by rw [gj];exact⟨_,_,rfl,by rw [yh],q⟩
theorem Hq {ys:List T} {a:VJ} {us:Array U8} {n:Nat} {s:Array (Option U8)} {xs:List T} {vs:List U8} (e:K.lookup a=some ⟨.type "tuple",none,.seq us n,s⟩) (z:ys.length<=Vz) (p:gj K ys us.toList) (q:gj K xs vs):gj K (.tup ys::xs) (.ref a::vs):=by rw [gj];exact⟨_,_,rfl,by rw [yh];exact⟨a,us,n,s,rfl,e,z,p⟩,q⟩
end
end M
namespace M
open PySem
theorem fin_same {L:aa} {t:T} (h:lt L.length t=true):fin L t L=.ok t L:=by
 unfold fin;rw [if_pos (show old L (L.drop (L.length - L.length)) from fun n c e=>.inl (by simpa using e))];simp only [aaY,aaG];unfold cf;rw [if_pos h];rfl
theorem aI {α β:Type} (a:α) (L:aa) (f:α->aa->R β):(R.ok a L).bind f=f a L:=rfl
theorem of_ok {α:Type} (a:α) (L:aa) (f:α->aa->O):O.of (.ok a L) f=f a L:=rfl
theorem j9 (φ:Fr) (L:aa) (f:Fr->aa->O):(O.nx φ L).next f=f φ L:=Eq.trans rfl rfl
theorem Dr (t:T) (L:aa) (f:Fr->aa->O):(O.rt t L).next f=.rt t L:=rfl
theorem fh (t:T) (L:aa):lift (some t) L=.ok t L:=rfl
theorem Hr {α β:Type} (f:α->β) (a:α) (L:aa):R.map f (.ok a L)=.ok (f a) L:=rfl
theorem aV {α:Type} {c:Prop} [Decidable c] {r:R α} (h:c):b8 c r=r:=if_pos h
theorem Az {L:aa} {b:Bool}:fin L (.bl b) L=.ok (.bl b) L:=fin_same (by simp [lt])
theorem Ds {L:aa} {b:Int}:fin L (.int b) L=.ok (.int b) L:=fin_same (by simp [lt])
theorem Dt {L:aa} {b:Cs}:fin L (.str b) L=.ok (.str b) L:=fin_same (by simp [lt])
theorem Du {L:aa}:fin L .b7 L=.ok .b7 L:=fin_same (by simp [lt])
theorem cK {xs:List T} {i:Nat} {x:T} {L:aa} (h:xs[i]?=some x):ix (.lst xs) (.int i) L=.ok x L:=by
 obtain⟨hi,e⟩:=Vl.mp h;simp [ix,vw,place,hi,e,lift]
theorem Hs {α:Type} {b:Bool} {x y:α} {L:aa}:(if b=true then R.ok x L else R.ok y L)=R.ok (if b=true then x else y) L:=by cases b <;> rfl
theorem Ja (i:Nat) (φ:Fr) (L:aa):v i φ L=((lift ((φ[i]?).join) L):R T):=rfl
theorem QP (x:T) (φ:Fr) (L:aa):c x φ L=((.ok x L):R T):=rfl
theorem OI (a:SE) (f:T->aa->R T) (φ:Fr) (L:aa):b1 a f φ L=(((a φ L).bind f):R T):=rfl
theorem KR (a b:SE) (f:T->T->aa->R T) (φ:Fr) (L:aa):b2 a b f φ L=(((a φ L).bind fun x L1=>(b φ L1).bind fun y L2=>f x y L2):R T):=rfl
theorem Ht (op oQ:CmpOp) (a b d:SE) (φ:Fr) (L:aa):xg op oQ a b d φ L=(((a φ L).bind fun x L1=>(b φ L1).bind fun y L2=>(BZ op x y L2).bind fun k L3=>if k=true then (d φ L3).bind fun z L4=>cmp oQ y z L4 else .ok (.bl false) L3):R T):=rfl
theorem OJ (a:SE) (φ:Fr) (L:aa):tv a φ L=(((a φ L).bind fun x L1=>match x with
 | .bl b=>.ok b L1
 | _=>.bad):R Bool):=rfl
theorem Hu (a b:ST) (φ:Fr) (L:aa):B0 a b φ L=(((a φ L).bind fun x L1=>if x=true then b φ L1 else .ok false L1):R Bool):=rfl
theorem KS (a b:ST) (φ:Fr) (L:aa):Mx a b φ L=(((a φ L).bind fun x L1=>if x=true then .ok true L1 else b φ L1):R Bool):=rfl
theorem Hv (a:ST) (φ:Fr) (L:aa):fF a φ L=(((a φ L).map (!·)):R Bool):=rfl
theorem Hw (a b:SE) (φ:Fr) (L:aa):B1 a b φ L=(((tv a φ L).bind fun x L1=>if x=true then b φ L1 else .ok (.bl false) L1):R T):=rfl
theorem KU (a b:SE) (φ:Fr) (L:aa):My a b φ L=(((tv a φ L).bind fun x L1=>if x=true then .ok (.bl true) L1 else b φ L1):R T):=rfl
theorem Hx (a:SE) (φ:Fr) (L:aa):pW a φ L=(((tv a φ L).map fun b=>.bl (!b)):R T):=rfl
theorem KV (φ:Fr) (L:aa):yes  φ L=((.ok true L):R Bool):=rfl
theorem KW (k:ST) (a b:SE) (φ:Fr) (L:aa):M3 k a b φ L=(((k φ L).bind fun x L1=>if x=true then a φ L1 else b φ L1):R T):=rfl
theorem EH (ms:List SE) (φ:Fr) (L:aa):tup ms φ L=(((iS ms φ L).bind fun ts L1=>.ok (.tup ts) L1):R T):=rfl
theorem KY (fz:Bool) (ms:List SE) (φ:Fr) (L:aa):lst fz ms φ L=(((iS ms φ L).bind fun ts L1=>eC fz ts L1):R T):=rfl
theorem Hy (fz:Bool) (φ:Fr) (L:aa):xh fz φ L=((mk fz (.aU []) L):R T):=rfl
theorem OK (fz:Bool) (a:SE) (lo hi:Option SE) (φ:Fr) (L:aa):sl fz a lo hi φ L=(((a φ L).bind fun x L1=>(Fd lo φ L1).bind fun i L2=>(Fd hi φ L2).bind fun j L3=>jd fz x i j L3):R T):=rfl
theorem AA (f:Fn) (ms:List SE) (φ:Fr) (L:aa):ae f ms φ L=(((iS ms φ L).bind f):R T):=rfl
theorem AB (a:SE) (φ:Fr) (L:aa):src a φ L=(((a φ L).bind fun x L1=>match items x L1 with
 | some xs=>.ok (xs,stays x L1) L1
 | none=>.bad):R (List T × (aa->Prop))):=rfl
theorem QR (a b:SE) (φ:Fr) (L:aa):yl a b φ L=(((a φ L).bind fun x L1=>(b φ L1).bind fun y L2=>match x,y with
 | .int i,.int j=>b8 (t6 i/\t6 j) (.ok (upTo i (j - i).toNat,fun _=>True) L2)
 | _,_=>.bad):R (List T × (aa->Prop))):=rfl
theorem KZ (a:SE) (φ:Fr) (L:aa):Mz a φ L=(((a φ L).bind fun x L1=>match vw L1 x with
 | .lst xs=>.ok (num 0 xs,stays x L1) L1
 | _=>.bad):R (List T × (aa->Prop))):=rfl
theorem Hz (a b:SE) (φ:Fr) (L:aa):M4 a b φ L=(((src a φ L).bind fun p L1=>(src b φ L1).bind fun q L2=>.ok (zp p.1 q.1,fun L'=>p.2 L'/\q.2 L') L2):R (List T × (aa->Prop))):=rfl
theorem HA (a:SE) (φ:Fr) (L:aa):M5 a φ L=(((a φ L).bind fun x L1=>match vw L1 x with
 | .aU ks=>.ok (prs ks,stays x L1) L1
 | _=>.bad):R (List T × (aa->Prop))):=rfl
theorem HB (φ:Fr) (L:aa):pass  φ L=((.nx φ L):O):=rfl
theorem K0 (φ:Fr) (L:aa):brk  φ L=((.bk φ L):O):=rfl
theorem K1 (φ:Fr) (L:aa):cnt  φ L=((.ct φ L):O):=rfl
theorem K2 (φ:Fr) (L:aa):gu  φ L=((.bad):O):=rfl
theorem sL (tg:Tg) (m:SE) (φ:Fr) (L:aa):asg tg m φ L=((O.of (m φ L) fun t L1=>match tg.set t φ with
 | some φ1=>.nx φ1 L1
 | none=>.bad):O):=rfl
theorem K3 (m:SE) (φ:Fr) (L:aa):gd m φ L=((O.of (m φ L) fun _ L1=>.nx φ L1):O):=rfl
theorem wH (m:SE) (φ:Fr) (L:aa):ret m φ L=((O.of (m φ L) fun t L1=>.rt t L1):O):=rfl
theorem K4 (k:ST) (a b:SS) (φ:Fr) (L:aa):iff k a b φ L=((O.of (k φ L) fun x L1=>if x=true then a φ L1 else b φ L1):O):=rfl
theorem K5 (op:Operator) (i:Nat) (m:SE) (φ:Fr) (L:aa):aug op i m φ L=((O.of (b2 (v i) m (ag op) φ L) fun t L1=>.nx (φ.set i (some t)) L1):O):=rfl
theorem HC (o:SE) (f:Str) (m:SE) (φ:Fr) (L:aa):jt o f m φ L=((O.of (m φ L) fun t L1=>O.of (o φ L1) fun x L2=>match t8 f x t L2 with
 | some L3=>.nx φ L3
 | none=>.bad):O):=rfl
theorem HD (o i m:SE) (φ:Fr) (L:aa):oB o i m φ L=((O.of (m φ L) fun t L1=>O.of (o φ L1) fun x L2=>O.of (i φ L2) fun y L3=>match jK x y t L3 with
 | some L4=>.nx φ L4
 | none=>.bad):O):=rfl
theorem HE (op:Operator) (o i m:SE) (φ:Fr) (L:aa):ym op o i m φ L=((O.of (o φ L) fun x L1=>O.of (i φ L1) fun y L2=>O.of (Jl x y L2) fun z L3=>O.of (m φ L3) fun t L4=>O.of (ag op z t L4) fun r L5=>match jK x y r L5 with
 | some L6=>.nx φ L6
 | none=>.bad):O):=rfl
theorem AD (s:SI) (tg:Tg) (b:SS) (φ:Fr) (L:aa):bG s tg b φ L=((O.of (s φ L) fun u L1=>forL u.2 tg b u.1 φ L1):O):=rfl
theorem lX (np nn:Nat) (b:SS) (xs:List T) (L:aa):run np nn b xs L=(if xs.length=np then match b (xs.map some++VI (nn - np) none) L with
  | .rt t L'=>fin L t L'
  | .nx _ L'=>fin L .b7 L'
  | _=>.bad
 else .bad):=rfl
theorem qH (φ:Fr) (L:aa):ab [] φ L=.nx φ L:=rfl
theorem gY (s:SS) (r:List SS) (φ:Fr) (L:aa):ab (s::r) φ L=(s φ L).next (ab r):=rfl
theorem Dv (a:SE) (φ:Fr) (L:aa):lA [a] φ L=a φ L:=rfl
theorem Dw (a b:SE) (r:List SE) (φ:Fr) (L:aa):lA (a::b::r) φ L=B1 a (lA (b::r)) φ L:=rfl
theorem HF (a:SE) (φ:Fr) (L:aa):BX [a] φ L=a φ L:=rfl
theorem HG (a b:SE) (r:List SE) (φ:Fr) (L:aa):BX (a::b::r) φ L=My a (BX (b::r)) φ L:=rfl
theorem Dx (a:ST) (φ:Fr) (L:aa):jf [a] φ L=a φ L:=rfl
theorem Dy (a b:ST) (r:List ST) (φ:Fr) (L:aa):jf (a::b::r) φ L=B0 a (jf (b::r)) φ L:=rfl
theorem HH (a:ST) (φ:Fr) (L:aa):xA [a] φ L=a φ L:=rfl
theorem HI (a b:ST) (r:List ST) (φ:Fr) (L:aa):xA (a::b::r) φ L=Mx a (xA (b::r)) φ L:=rfl
theorem nM (φ:Fr) (L:aa):iS [] φ L=.ok [] L:=rfl
theorem nN (m:SE) (ms:List SE) (φ:Fr) (L:aa):iS (m::ms) φ L=((m φ L).bind fun t L1=>(iS ms φ L1).bind fun ts L2=>.ok (t::ts) L2):=rfl
theorem HJ (φ:Fr) (L:aa):Fd none φ L=.ok none L:=rfl
theorem HK (m:SE) (φ:Fr) (L:aa):Fd (some m) φ L=((m φ L).bind fun t L1=>match t with
  | .int i=>.ok (some i) L1
  | _=>.bad):=rfl
theorem HL (f:Ty->Option (T->Fn)) (a:SE) (ms:List SE) (φ:Fr) (L:aa):aN f a ms φ L=((a φ L).bind fun x L1=>match (Ee L1 x).bind f with
 | some F=>(iS ms φ L1).bind fun ts L2=>F x ts L2
 | none=>.bad):=rfl
theorem mapM_map {α β:Type} {f:T->Option α} {g:β->T} {h:β->α} (hf:∀b,f (g b)=some (h b)):∀l:List β,(l.map g).mapM f=some (l.map h)
 | []=>rfl
 | b::l=>by rw [Vg,W9,hf,mapM_map hf l];rfl
theorem sM {L Ln:aa} {t:T} (h:lt L.length t=true):fin L t (Ln++L)=.ok t L:=by
 have e:(Ln++L).drop ((Ln++L).length - L.length)=L:=by
  rw [U3,Zt,YS]
 unfold fin;rw [e,if_pos (show old L L from fun n c e=>.inl e)];unfold cf;rw [if_pos h];rfl
theorem u3 {s:Cs} {i:Int} {L:aa} (h0:0<=i) (h1:i<s.length):ix (.str s) (.int i) L=.ok (.str [s.getD i.toNat 0]) L:=by
 have hi:i.toNat<s.length:=by omega
 simp [ix,vw,place,h0,h1,lift,Gd9,hi]
theorem wI {xs:List T} {i:Int} {x:T} {L:aa} (h0:0<=i) (h:xs[i.toNat]?=some x):ix (.lst xs) (.int i) L=.ok x L:=by
 obtain⟨hi,e⟩:=Vl.mp h;have h1:i<xs.length:=by omega
 simp [ix,vw,place,h0,h1,hi,e,lift]
theorem HM {sep:Cs} {zs:List Cs} {L:aa} (h:(zs.map (·.length)).sum+zs.length * sep.length<=16777216):lS (.str sep) [.lst (zs.map .str)] L=.ok (.str (jn sep zs)) L:=by
 have:=mapM_map (f:=IK) (g:=T.str) (h:=id) (fun _=>rfl) zs;simp [lS,items,vw,this,b8,h]
theorem Dz {x:T} {L:aa} (h:∀n,x≠.ref n) (L':aa):stays x L L':=fun n e=>absurd e (h n)
theorem ai {x:T} {L:aa}:stays x L L:=fun n e=>rfl
noncomputable def To:T->Bool
 | .ref _=>true
 | _=>false
theorem sv {x:T} {L L':aa} (h:To x=false:=by rfl):stays x L L':=fun n e=>by subst e;cases h
end M
namespace EI
open PySem
abbrev u4:Str:="abcdefghijklmnopqrstuvwxyz"
abbrev qI:Str:="ABCDEFGHIJKLMNOPQRSTUVWXYZ"
abbrev OL:Str:="0123456789"
noncomputable def fL (c:Nat):Bool:=decide (c∈u4.cps.toList) || (decide (c∈qI.cps.toList) || decide (c∈OL.cps.toList))
noncomputable def dN (l:List Nat):Nat:=(l.takeWhile fL).length
noncomputable def av (p:List Nat):Bool:=decide (1<=p.length) && (decide (p.length<=12) && p.all fL)
end EI
namespace Bk
open PySem EI
abbrev Cs:=List Nat
theorem aQ {s:Cs} (h:av s=true):1<=s.length/\s.length<=12:=by
 unfold av at h;simp only [Ve,decide_eq_true_eq] at h;exact⟨h.1,h.2.1⟩
theorem EJ {s:Cs} (h:av s=true):∀c∈s,fL c=true:=by
 unfold av at h;simp only [Ve,U7] at h;exact h.2.2
structure Fc where
 k:Cs
 as:List Cs
structure Kd where
 n:Cs
 c:Nat
 l:Bool
structure Lk where
 same:Bool
 l:Cs
 r:Cs
structure Rl where
 title:Cs
 take:List Fc
 keep:List Fc
 aj:List Lk
 put:List Fc
 tell:List (Cs × Cs)
noncomputable def great (x:Cs):Bool:=decide (x.headD 0∈qI.cps.toList)
noncomputable def bZ (p:Cs):Bool:=av p && decide (p.headD 0∈u4.cps.toList)
theorem bt {p:Cs} (h:bZ p=true):av p=true:=by
 unfold bZ at h;rw [Ve] at h;exact h.1
noncomputable def fq (x:Cs) (acc:List Cs):List Cs:=if great x=true then (if x∈acc then acc else acc++[x]) else acc
noncomputable def iG (l:List Cs) (acc:List Cs):List Cs:=l.foldl (fun acc x=>fq x acc) acc
noncomputable def opens (fs:List Fc):List Cs:=iG (fs.flatMap (·.as)) []
theorem nO:∀(l:List Cs) {acc:List Cs} (x:Cs),x∈iG l acc↔x∈acc\/(x∈l/\great x=true)
 | [],acc,x=>by simp [iG]
 | n::ns,acc,x=>by
  show x∈iG ns (fq n acc)↔_;rw [nO ns];have e:x∈fq n acc↔x∈acc\/(x=n/\great x=true):=by
   unfold fq;by_cases g:great n=true
   ·by_cases hm:n∈acc <;> simp only [g,hm,if_true,if_false,Vd,Vx]
    ·exact⟨.inl,fun z=>z.elim id fun z=>z.1 ▸ hm⟩
    ·exact or_congr_right ⟨fun z=>⟨z,z ▸ g⟩,And.left⟩
   ·rw [if_neg g]
    exact⟨.inl,fun z=>z.elim id fun z=>absurd (z.1 ▸ z.2) g⟩
  rw [e,Vn,or_assoc,<- or_and_right]
theorem nP:∀(l acc:List Cs),acc.Nodup->(iG l acc).Nodup
 | [],_,h=>h
 | x::r,acc,h=>nP r _ (by
  show(fq x acc).Nodup;unfold fq;split
  ·split
   ·exact h
   ·rename_i hx
    exact WM.mpr ⟨h,by simp,fun a ha b hb e=>hx (by rw [<- Vx.mp hb,<- e];exact ha)⟩
  ·exact h)
theorem dU (fs:List Fc):(opens fs).Nodup:=nP _ _ Xt
theorem sN (x:Cs) (acc:List Cs):(fq x acc).length<=acc.length+1:=by unfold fq;split <;> (try split) <;> simp
theorem iZ (l acc:List Cs):(iG l acc).length<=acc.length+l.length:=by
 induction l generalizing acc with
 | nil=>simp [iG]
 | cons x l ih =>
  have h1:=ih (fq x acc);have h2:=sN x acc
  show(iG l (fq x acc)).length<=_;rw [Vb];omega
theorem gI {α β:Type} {g:α->List β} {B:Nat}:∀{l:List α},(∀x∈l,(g x).length<=B)->(l.flatMap g).length<=l.length * B
 | [],_=>by simp
 | a::r,h=>by
  have h1:=gI (l:=r) fun x hx=>h x (U5 _ hx)
  have h2:=h a U4;rw [YQ,U3,Vb,aa0];omega
theorem kh {fs:List Fc} {a:Cs} (h:a∈opens fs):(∃f∈fs,a∈f.as)/\great a=true:=by
 rcases(nO _ a).mp h with h|⟨h,g⟩
 ·cases h
 ·exact⟨Yo.mp h,g⟩
theorem xS {fs:List Fc} {a:Cs} {f:Fc} (hf:f∈fs) (ha:a∈f.as) (g:great a=true):a∈opens fs :=
 (nO _ a).mpr (.inr ⟨Yo.mpr ⟨f,hf,ha⟩,g⟩)
inductive W (m:Cs):Cs->List Cs->Prop
 | nil:W m [] []
 | name {n:Cs} (h:av n=true):W m n [n]
 | sp {a b:Cs} {p q:List Cs} (x:W m a p) (y:W m b q):W m (a++32::b) (p++q)
 | mk {a b:Cs} {p q:List Cs} {c:Nat} (hc:c∈m) (x:W m a p) (y:W m b q):W m (a++c::b) (p++[c]::q)
theorem W.up {m m':Cs} (h:∀c∈m,c∈m') {t:Cs} {p:List Cs} (w:W m t p):W m' t p:=by
 induction w with
 | nil=>exact .nil
 | name h=>exact .name h
 | sp _ _ a b=>exact .sp a b
 | mk hc _ _ a b=>exact .mk (h _ hc) a b
theorem sO:fL 32=false:=by decide +kernel
theorem W.no {m:Cs} {c:Nat} (ha:fL c=false) (hm:c∉m) {t:Cs} {p:List Cs} (w:W m t p):[c]∉p/\(c≠32->c∉t):=by
 induction w with
 | nil=>simp
 | @name n h =>
  have z:c∉n:=fun z=>by rw [EJ h c z] at ha;cases ha
  exact⟨fun e=>z (by rw [<- Vx.mp e];exact Vx.mpr rfl),fun _=>z⟩
 | sp _ _ a b=>exact⟨fun z=>(Vd.mp z).elim a.1 b.1,fun h z=>(Vd.mp z).elim (a.2 h) fun z=>(Vn.mp z).elim h (b.2 h)⟩
 | mk hc _ _ a b =>
  have n:∀{d},d∈m->c≠d:=fun h e=>hm (e ▸ h)
  exact⟨fun z=>(Vd.mp z).elim a.1 fun z=>(Vn.mp z).elim (fun e=>n hc (W8 e).1) b.1,fun h z=>(Vd.mp z).elim (a.2 h) fun z=>(Vn.mp z).elim (n hc) (b.2 h)⟩
inductive Tk (m:Cs):Cs->List Cs->Prop
 | nil:Tk m [] []
 | sp {r:Cs} {q:List Cs} (t:Tk m r q):Tk m (32::r) q
 | mk {c:Nat} {r:Cs} {q:List Cs} (hc:c∈m) (t:Tk m r q):Tk m (c::r) ([c]::q)
 | name {n r:Cs} {q:List Cs} (h:av n=true) (hs:∀c∈r.head?,fL c=false) (t:Tk m r q):Tk m (n++r) (n::q)
theorem W.tk {m:Cs} (hm:∀c∈m,fL c=false) {t:Cs} {p:List Cs} (w:W m t p):∀{r:Cs} {q:List Cs},(∀c∈r.head?,fL c=false)->Tk m r q->Tk m (t++r) (p++q):=by
 induction w with
 | nil=>exact fun _ h=>h
 | name h=>exact fun s t=>.name h s t
 | sp _ _ a b =>
  intro r q s t;rw [Vw,Vw];exact a (fun c h=>by cases h;exact sO) (.sp (b s t))
 | mk hc _ _ a b =>
  intro r q s t;rw [Vw,Vw];exact a (fun c h=>by cases h;exact hm _ hc) (.mk hc (b s t))
theorem Tk.len {m t:Cs} {p:List Cs} (w:Tk m t p):p.length<=t.length:=by
 induction w with
 | nil=>exact Vm _
 | sp _ ih=>exact Nat.le_succ_of_le ih
 | mk _ _ ih=>exact aae ih
 | name h _ _ ih =>
  have:=(aQ h).1;rw [U3,Vb];omega
noncomputable def glue (m:Cs):List (List Cs)->List Cs
 | []=>[]
 | [q]=>q
 | q::r=>q++m::glue m r
theorem W.join {α:Type} {m:Cs} {c:Nat} (hc:c∈m) {tx:α->Cs} {tp:α->List Cs}:∀l:List α,(∀x∈l,W m (tx x) (tp x))->W m (M.jn [c,32] (l.map tx)) (glue [c] (l.map tp))
 | [],_=>.nil
 | [a],h=>h a U4
 | a::b::r,h=>by
  have z:=W.mk hc (h a U4) (.sp .nil (W.join hc (b::r) fun x hx=>h x (U5 _ hx)));show W m (tx a++[c,32]++M.jn [c,32] ((b::r).map tx)) _
  rw [Vw];exact z
theorem lC {sep:Cs} {B:Nat}:∀{ls:List Cs},(∀l∈ls,l.length<=B)->(M.jn sep ls).length<=ls.length * (B+sep.length)
 | [],_=>VK _
 | [a],h=>by
  have:=h a U4;show a.length<=1 * _
  omega
 | a::b::r,h=>by
  have z:=lC (sep:=sep) (ls:=b::r) fun l hl=>h l (U5 _ hl)
  have:=h a U4;show(a++sep++M.jn sep (b::r)).length<=((b::r).length+1) * _
  rw [U3,U3,aa0];omega
abbrev cB:Cs:=[112,97,115,115,105,110,103]
abbrev cC:Cs:=[108,97,115,116,105,110,103]
abbrev gZ:Cs:=[114,117,108,101]
abbrev HN:Cs:=[115,97,109,101]
abbrev AE:Cs:=[117,110,108,105,107,101]
noncomputable def wordAt:Nat->Cs
 | 0=>[116,97,107,101]
 | 1=>[107,101,101,112]
 | 2=>[108,111,111,107]
 | 3=>[112,117,116]
 | _=>[116,101,108,108]
theorem jA {i j:Nat} (hi:i<5) (hj:j<5) (h:wordAt i=wordAt j):i=j:=(by decide +kernel:∀i<5,∀j<5,wordAt i=wordAt j->i=j) i hi j hj h
theorem AF {n:Nat} (h:n<5):av (wordAt n)=true/\(wordAt n).length<=4:=(by decide +kernel:∀n<5,av (wordAt n)=true/\(wordAt n).length<=4) n h
noncomputable def between:List Cs->List Cs
 | []=>[]
 | [a]=>[a,[41]]
 | a::r=>a::[44]::between r
noncomputable def iH (g:Fc):Cs:=if g.as=[] then g.k else ((g.k++[40])++M.jn [44] g.as)++[41]
noncomputable def di (g:Fc):List Cs:=if g.as=[] then [g.k] else g.k::[40]::between g.as
noncomputable def fR (b:Bool):Cs:=if b=true then HN else AE
theorem AG (b:Bool):av (fR b)=true/\(fR b).length<=6:=by cases b <;> decide +kernel
noncomputable def nQ (k:Lk):Cs:=k.l++32::(fR k.same++32::k.r)
noncomputable def ji (k:Lk):List Cs:=[k.l,fR k.same,k.r]
noncomputable def nR (p:Cs × Cs):Cs:=p.1++32::61::32::p.2
noncomputable def jj (p:Cs × Cs):List Cs:=[p.1,[61],p.2]
noncomputable def ay (k:Kd):Cs:=(if k.l=true then cC else cB)++(32::(k.n++(32::[48+k.c])))
noncomputable def sP (k:Kd):List Cs:=[if k.l=true then cC else cB,k.n,[48+k.c]]
structure Im where
 tx:Cs
 tp:List Cs
 t:M.T
end Bk
namespace M
open PySem
open Bk (Fc Kd Lk Rl)
noncomputable def fT (f:Fc):T:=.tup [.str f.k,.tup (f.as.map .str)]
noncomputable def pT (p:Cs × Cs):T:=.tup [.str p.1,.str p.2]
noncomputable def lT (k:Lk):T:=.obj (if k.same=true then "Same" else "Unlike") [("left",.str k.l),("right",.str k.r)]
end M
namespace Bk
open PySem EI
noncomputable def fI (f:Fc):Im:=⟨iH f,di f,M.fT f⟩
noncomputable def lI (k:Lk):Im:=⟨nQ k,ji k,M.lT k⟩
noncomputable def pI (p:Cs × Cs):Im:=⟨nR p,jj p,M.pT p⟩
noncomputable def rows (r:Rl):List (Nat × List Im):=[(0,r.take.map fI),(1,r.keep.map fI),(2,r.aj.map lI),(3,r.put.map fI),(4,r.tell.map pI)]
noncomputable def ne (x:Nat × List Im):Bool:=!x.2.isEmpty
noncomputable def iy (r:Rl):List (Nat × List Im):=(rows r).filter ne
noncomputable def ip (x:Nat × List Im):Cs:=wordAt x.1++32::M.jn [44,32] (x.2.map (·.tx))
noncomputable def jk (x:Nat × List Im):List Cs:=wordAt x.1::glue [44] (x.2.map (·.tp))
noncomputable def pE (w:Cs) (m:List Cs):List Cs:=if m=[] then [] else [w++32::M.jn [44,32] m]
theorem sQ:∀l:List (Nat × List Im),(l.flatMap fun x=>pE (wordAt x.1) (x.2.map (·.tx)))=(l.filter ne).map ip
 | []=>rfl
 | x::r=>by
  rw [YQ,sQ r,List.filter_cons];obtain⟨n,l⟩:=x;cases l <;> rfl
noncomputable def cm (r:Rl):Cs:=gZ++32::(r.title++58::32::M.jn [59,32] ((iy r).map ip))
noncomputable def fu (r:Rl):List Cs:=gZ::r.title::[58]::glue [59] ((iy r).map jk)
structure FG (g:Fc):Prop where
 k:bZ g.k=true
 as:∀a∈g.as,av a=true
 n:g.as.length<=4
noncomputable def MO (m:Nat) (r:Rl):Prop:=r.take.length<=m/\r.keep.length<=m/\r.aj.length<=m/\r.put.length<=m/\r.tell.length<=m
noncomputable def ak (ks:List Kd):List Cs:=(ks.filter (·.l)).map (·.n)
noncomputable def aO (ks:List Kd) (f:Fc):Prop:=∃k∈ks,k.n=f.k/\f.as.length=k.c
noncomputable def fv (r:Rl):List Cs:=(r.aj.flatMap fun k=>[k.l,k.r])++((r.put.flatMap (·.as))++(r.tell.flatMap fun p=>[p.1,p.2]))
structure tY (ks:List Kd) (r:Rl):Prop where
 t:bZ r.title=true
 f:∀g∈r.take++r.keep++r.put,FG g/\aO ks g
 l:∀k∈r.aj,av k.l=true/\av k.r=true
 p:∀p∈r.tell,av p.1=true/\av p.2=true
 hd:r.take=[]->r.keep≠[]
 pe:MO 2 r
 takes:∀f∈r.take,f.k∉ak ks
 calls:r.take=[]->∀f∈r.put,f.k∈ak ks
 u5:∀a∈fv r,av a=true/\(great a=true->a∈opens (r.take++r.keep))
abbrev MP:Cs:=[40,41,44,61]
abbrev HO:Cs:=[40,41,44,58,59,61]
theorem W.QS:∀{as:List Cs},as≠[]->(∀a∈as,av a=true)->W MP (M.jn [44] as++[41]) (between as)
 | [],h,_=>absurd rfl h
 | [a],_,h=>.mk (c:=41) (by decide) (.name (h a U4)) .nil
 | a::b::r,_,h=>by
  have z:=W.mk (c:=44) (by decide) (.name (h a U4)) (W.QS (as:=b::r) (Yp _ _) fun x hx=>h x (U5 _ hx));show W MP (a++[44]++M.jn [44] (b::r)++[41]) _
  rw [Vw,Vw];exact z
noncomputable def sR (i:Im):Prop:=i.tx.length<=70/\W MP i.tx i.tp
theorem FG.im {g:Fc} (h:FG g):sR (fI g):=by
 have hk:=bt h.k;have h1:=(aQ hk).2
 have h2:=lC (sep:=[44]) fun a ha=>(aQ (h.as a ha)).2
 have h3:=h.n;unfold sR fI iH di;by_cases e:g.as=[]
 ·rw [if_pos e,if_pos e]
  exact⟨Vt h1 (by decide),.name hk⟩
 ·rw [if_neg e,if_neg e]
  refine⟨?_,?_⟩
  ·simp only [U3,Vb,VH] at h2 ⊢
   omega
  ·dsimp only
   rw [Vw,Vw];exact .mk (c:=40) (by decide) (.name hk) (W.QS e h.as)
theorem wJ {k:Lk} (h:av k.l=true/\av k.r=true):sR (lI k)/\[44]∉ji k:=by
 have w:∀m,W m (nQ k) (ji k):=fun m=>.sp (.name h.1) (.sp (.name (AG _).1) (.name h.2))
 have h1:=(aQ h.1).2;have h2:=(aQ h.2).2
 have h3:=(AG k.same).2;refine⟨⟨?_,w _⟩,(W.no (m:=[]) (by decide +kernel) (by decide) (w _)).1⟩;unfold lI nQ;simp only [U3,Vb];omega
theorem wK {k:Cs × Cs} (h:av k.1=true/\av k.2=true):sR (pI k)/\[44]∉jj k:=by
 have w:∀{m},61∈m->W m (nR k) (jj k):=fun z=>.sp (.name h.1) (.mk z .nil (.sp .nil (.name h.2)))
 have h1:=(aQ h.1).2;have h2:=(aQ h.2).2
 refine⟨⟨?_,w (by decide)⟩,(W.no (m:=[61]) (by decide +kernel) (by decide) (w (by decide))).1⟩;unfold pI nR;simp only [U3,Vb];omega
theorem DA {α:Type} {P:α->Prop} {a b c d e:α} (ha:P a) (hb:P b) (hc:P c) (hd:P d) (he:P e):∀x∈[a,b,c,d,e],P x:=by
 simp only [Vn,WR,or_false];rintro x (rfl|rfl|rfl|rfl|rfl) <;> assumption
section
variable {ks:List Kd} {r:Rl} (h:tY ks r)
include h
theorem tY.row:∀x∈rows r,x.1<5/\x.2.length<=2/\∀i∈x.2,sR i:=by
 obtain⟨f1,f2,f3,f4,f5⟩:=h.pe;have F:∀n<5,∀l:List Fc,l.length<=2->(∀g∈l,g∈r.take++r.keep++r.put)->n<5/\(l.map fI).length<=2/\∀i∈l.map fI,sR i:=fun n hn l hl hs=>⟨hn,by rwa [Lm9],fun i hi=>by
  obtain⟨g,hg,rfl⟩:=U6.mp hi;exact(h.f g (hs g hg)).1.im⟩
 refine DA (F 0 (by decide) _ f1 fun g hg=>Va _ (Va _ hg)) (F 1 (by decide) _ f2 fun g hg=>Va _ (Vh _ hg)) ⟨show 2<5 by decide,by rwa [Lm9],fun i hi=>?_⟩ (F 3 (by decide) _ f4 fun g hg=>Vh _ hg) ⟨show 4<5 by decide,by rwa [Lm9],fun i hi=>?_⟩
 ·obtain⟨g,hg,rfl⟩:=U6.mp hi
  exact(wJ (h.l g hg)).1
 ·obtain⟨g,hg,rfl⟩:=U6.mp hi
  exact(wK (h.p g hg)).1
theorem tY.part {x:Nat × List Im} (hx:x∈rows r):W MP (ip x) (jk x)/\(ip x).length<=150:=by
 obtain⟨h5,h2,hi⟩:=h.row x hx;refine⟨.sp (.name (AF h5).1) (W.join (by decide) _ fun i h=>(hi i h).2),?_⟩;have z:=lC (sep:=[44,32]) (ls:=x.2.map (·.tx)) (B:=70) fun l hl=>by
  obtain⟨i,h,rfl⟩:=U6.mp hl;exact(hi i h).1
 have:=(AF h5).2;unfold ip;simp only [U3,Vb,Lm9,VH] at z ⊢;omega
theorem tY.parts:((iy r).map ip).length<=5/\∀l∈(iy r).map ip,l.length<=150:=by
 refine⟨by rw [Lm9];exact Xp _ _,fun l hl=>?_⟩;obtain⟨x,hx,rfl⟩:=U6.mp hl;exact(h.part (VC.mp hx).1).2
theorem tY.line:W HO (cm r) (fu r)/\(cm r).length<=800:=by
 refine⟨.sp (.name (n:=gZ) (by decide +kernel)) (.mk (by decide) (.name (bt h.t)) (.sp .nil (W.join (by decide) _ fun x hx=>(h.part (VC.mp hx).1).1.up (by decide)))),?_⟩;have z:=lC (sep:=[59,32]) h.parts.2
 have:=h.parts.1;have:=(aQ (bt h.t)).2
 unfold cm;simp only [U3,Vb,VH] at z ⊢;omega
end
structure KG (ks:List Kd):Prop where
 len:ks.length=4
 nd:(ks.map (·.n)).Nodup
 ok:∀k∈ks,bZ k.n=true/\k.c<=4
 yes:∃k∈ks,k.l=true
 no:∃k∈ks,k.l=false
theorem lD {k:Kd} (h:bZ k.n=true/\k.c<=4):W HO (ay k) (sP k)/\(ay k).length<=800:=by
 have hw:av (if k.l=true then cC else cB)=true/\(if k.l=true then cC else cB).length=7:=by cases k.l <;> decide +kernel
 have:=(aQ (bt h.1)).2;refine⟨.sp (.name hw.1) (.sp (.name (bt h.1)) (.name ((by decide +kernel:∀c≤4,av [48+c]=true) k.c h.2))),?_⟩;unfold ay;simp only [U3,Vb,VH,hw.2];omega
theorem ki (p:Cs):(M.toS p).cps.toList=p:=by simp [M.toS]
theorem K6 (x:Str):M.toS x.cps.toList=x:=by cases x;simp [M.toS]
noncomputable def my:Cs->List Cs
 | []=>[[]]
 | c::r=>if c=10 then []::my r else match my r with
  | []=>[[c]]
  | q::qs=>(c::q)::qs
theorem sS:∀(a r:Cs),10∉a->my (a++10::r)=a::my r
 | [],r,_=>rfl
 | c::a,r,h=>by
  have hc:c≠10:=fun e=>h (by rw [e];exact U4)
  show(if c=10 then []::my (a++10::r) else match my (a++10::r) with|[]=>[[c]]|q::qs=>(c::q)::qs)=_;rw [if_neg hc,sS a r fun z=>h (U5 _ z)]
theorem sT:∀(a:Cs),10∉a->my a=[a]
 | [],_=>rfl
 | c::a,h=>by
  have hc:c≠10:=fun e=>h (by rw [e];exact U4)
  show(if c=10 then []::my a else match my a with|[]=>[[c]]|q::qs=>(c::q)::qs)=_;rw [if_neg hc,sT a fun z=>h (U5 _ z)]
theorem lE:∀(ls:List Cs),ls≠[]->(∀l∈ls,10∉l)->my (M.jn [10] ls)=ls
 | [],h,_=>absurd rfl h
 | [a],_,h=>sT a (h a U4)
 | a::b::r,_,h=>by
  show my (a++[10]++M.jn [10] (b::r))=_;rw [Vw,X4,sS a _ (h a U4),lE (b::r) (Yp _ _) fun l hl=>h l (U5 _ hl)]
theorem sU:∀(ls:List Str),(Str.join ⟨#[10]⟩ ls).cps.toList=M.jn [10] (ls.map fun s=>s.cps.toList)
 | []=>rfl
 | [a]=>rfl
 | a::b::r=>by
  show((a++(⟨#[10]⟩:Str))++Str.join ⟨#[10]⟩ (b::r)).cps.toList=_;rw [aaO,aaO,sU (b::r)];rfl
theorem AH (x:Str):Yh x ⟨#[10]⟩≠[]:=by
 unfold Yh;split
 ·simp
 ·split
  ·simp
  ·intro h
   have e:=congrArg Xr h;rw [PyProof.Rows.len_partsBetween] at e;simp at e
theorem sW {ls:List Cs} (h0:ls≠[]) (h:∀l∈ls,10∉l):Yh (M.toS (M.jn [10] ls)) (M.toS [10])=ls.map M.toS:=by
 have e1:=StrLaws.join_split (M.toS (M.jn [10] ls)) ⟨#[10]⟩;have hf:=StrLaws.split_free (M.toS (M.jn [10] ls)) 10
 have hn:=AH (M.toS (M.jn [10] ls));show Yh (M.toS (M.jn [10] ls)) ⟨#[10]⟩=_
 generalize Yh (M.toS (M.jn [10] ls)) ⟨#[10]⟩=ts at e1 hf hn;have e3:=congrArg my (show M.jn [10] (ts.map fun s=>s.cps.toList)=M.jn [10] ls by rw [<- sU,e1,ki])
 rw [lE ls h0 h,lE _ (by simpa using hn) (by
  intro l hl;obtain⟨t,ht,rfl⟩:=U6.mp hl;exact hf t ht)] at e3
 rw [<- e3,Vv,show(M.toS ∘ fun s:Str=>s.cps.toList)=id from funext K6,Yr]
theorem AI {c:Nat} (hc:c≠32) (p:Cs):∃q:Cs,Zw (M.toS (c::p)) (M.toS [32])=M.toS (c::q)/\q.length<=p.length:=by
 have e0:(M.toS [32]).cps.contains=fun c=>c == 32:=by
  funext c;simp [M.toS,Bool.beq_eq_decide_eq]
 unfold Zw;rw [e0,PyProof.Rows.stripBy_eq];have Tp:stripLo (fun c=>c == 32) true (M.toS (c::p))=0:=by
  simp [stripLo,M.toS,hc]
 obtain⟨b1,b2,b3,b4⟩:=PyProof.Rows.hi_facts (fun c=>c == 32) (M.toS (c::p)) _ (VK _);rw [Tp];generalize stripHi (fun c=>c == 32) true (M.toS (c::p)) 0=hi at b1 b2 b3 b4;have hl:(M.toS (c::p)).length=p.length+1:=by simp [M.toS,Str.length]
 rw [hl] at b2 b3;obtain⟨k,rfl⟩:∃k,hi=k+1:=by
  cases hi with
  | succ k=>exact⟨k,rfl⟩
  | zero =>
   have z:=b3 0 (Vm _) (Zr _);exact absurd z (by simp [M.toS,hc])
 refine⟨p.take k,?_,by rw [VS];omega⟩;rw [<- K6 (Builtin.Str.strSub (M.toS (c::p)) 0 (k+1)),StrLaws.strSub_toList,ki];rfl
abbrev lF:Cs:=[97,98,99,100,101,102,103,104]
noncomputable def nameOf (a b k:Nat):Cs:=VI a 109++([lF.getD k 0]++VI b 109)
theorem cQ {a b k:Nat} (hk:k<8) (hab:a+b<=4):bZ (nameOf a b k)=true:=(by decide +kernel:∀a<5,∀b<5,∀k<8,bZ (nameOf a b k)=true) a (by omega) b (by omega) k hk
theorem nS {a b j k:Nat} (hj:j<8) (hk:k<8) (h:nameOf a b j=nameOf a b k):j=k:=by
 unfold nameOf at h;have h2:=List.append_inj_right h rfl
 have h3:lF.getD j 0=lF.getD k 0:=(W8 h2).1;exact(by decide +kernel:∀j<8,∀k<8,lF.getD j 0=lF.getD k 0->j=k) j hj k hk h3
theorem pF:∀(l m:List Cs),l.Nodup->(∀x∈l,x∈m)->l.length<=m.length
 | [],_,_,_=>VK _
 | x::r,m,nd,h=>by
  have hx:=h x (U4 ..);have nr:=VW.mp nd
  have z:=pF r (m.erase x) nr.2 fun y hy=>(List.mem_erase_of_ne (fun e=>nr.1 (by rw [<- e];exact hy))).mpr (h y (U5 _ hy))
  rw [Yw hx] at z;have:1<=m.length:=XR hx
  rw [Vb];omega
deriving instance DecidableEq for Fc
noncomputable def short (bp ts:List Fc):Bool:=ts.any fun f=>decide (bp.count f<ts.count f)
theorem lG {α:Type} [DecidableEq α]:∀(l b:List α),(∀f,l.count f<=b.count f)->l.length<=b.length
 | [],_,_=>VK _
 | x::l,b,h=>by
  have hx:x∈b:=by
   have z:=h x;rw [List.count_cons_self] at z;exact YE.mp (by omega)
  have ih:=lG l (b.erase x) fun f=>by
   have z:=h f;rw [List.count_cons] at z;rw [List.count_erase];by_cases e:x=f
   ·subst e
    simp only [beq_self_eq_true,if_true] at z ⊢;omega
   ·have e1:(x == f)=false:=by simpa using e
    simp only [e1,Vi,if_false] at z ⊢;omega
  have hp:=XR hx;rw [Yw hx] at ih;rw [Vb];omega
end Bk
namespace Un
section
variable {α:Type} [DecidableEq α] (great:α->Bool) (lt:α->α->Bool)
noncomputable def mn (a b:α):α:=if lt b a=true then b else a
noncomputable def bj (p q:α):α:=if great p=false then p else if great q=false then q else mn lt p q
variable {great lt}
theorem EK (a b:α):mn lt a b=a\/mn lt a b=b:=by
 unfold mn;split
 ·exact .inr rfl
 ·exact .inl rfl
noncomputable def told (great:α->Bool) (lt:α->α->Bool) (ρ:α->α) (a b x:α):α:=if ρ x=ρ a\/ρ x=ρ b then bj great lt (ρ a) (ρ b) else ρ x
end
end Un
namespace Bk
open PySem EI
abbrev bc:=List (Cs × Cs)
noncomputable def kj (st:bc) (n:Cs):Option Cs:=(st.find? fun p=>decide (p.1=n)).map (·.2)
noncomputable def af (st:bc) (n:Cs):Cs:=(kj st n).getD n
noncomputable def fj (a b:Cs):Bool:=decide (a<b)
noncomputable def g6 (st:bc) (n:Cs):bc:=if great n=true then (if n∈st.map (·.1) then st else st++[(n,n)]) else st
noncomputable def iu (st:bc) (ns:List Cs):bc:=ns.foldl g6 st
noncomputable def km (p q:Cs) (e:Cs × Cs):Cs × Cs:=(e.1,if e.2=p\/e.2=q then Un.bj great fj p q else e.2)
noncomputable def cq (p q:Cs):Prop:=p≠q/\great p=false/\great q=false
noncomputable instance (p q:Cs):Decidable (cq p q):=by unfold cq;infer_instance
noncomputable def bJ (st:bc) (p q:Cs):bc:=if p=q then st else st.map (km p q)
theorem jB (p q:Cs) (st:bc):(st.map (km p q)).map (·.1)=st.map (·.1):=by
 rw [Vv];rfl
noncomputable def wr (st:bc) (f:Fc):Fc:=⟨f.k,f.as.map (af st)⟩
noncomputable def aJ:bc->List (Cs × Cs)->Option bc
 | st,[]=>some st
 | st,(a,b)::r=>if cq (af (iu st [a,b]) a) (af (iu st [a,b]) b) then none else aJ (bJ (iu st [a,b]) (af (iu st [a,b]) a) (af (iu st [a,b]) b)) r
noncomputable def lw (iy:List (Cs × Cs)) (st:bc) (l:List Fc):List Fc:=if iy=[] then l else l.map (wr st)
noncomputable def mz (ks:List Kd) (ns:List Cs) (f:Fc):Prop:=(∃k∈ks,f.k=k.n/\f.as.length=k.c)/\∀a∈f.as,a∈ns
noncomputable def tZ (k:Kd):Bool:=!k.l
structure K7 (ks:List Kd) (os ws:List Cs) (r:Rl):Prop where
 take:∀f∈r.take,mz (ks.filter tZ) (os++ws) f
 keep:∀f∈r.keep,mz ks (os++ws) f
 put:∀f∈r.put,mz (if r.take=[] then ks.filter (·.l) else ks) (opens (r.take++r.keep)++ws) f
 aj:∀k∈r.aj,k.l∈opens (r.take++r.keep)++ws/\k.r∈opens (r.take++r.keep)++ws
 tell:∀p∈r.tell,p.1∈opens (r.take++r.keep)++ws/\p.2∈opens (r.take++r.keep)++ws
 hd:1<=r.take.length+r.keep.length
 pe:MO 2 r
noncomputable def fS (r:Rl) (t:Cs):Rl:={ r with title:=t }
section
variable {ks:List Kd} {os ws:List Cs} {r:Rl} {t:Cs}
theorem mz.sub {ks uC:List Kd} {ns ns':List Cs} {f:Fc} (h:mz uC ns f) (hs:∀k∈uC,k∈ks) (hn:∀n∈ns,n∈ns'):mz ks ns' f:=by
 obtain⟨⟨k,hk,e⟩,ha⟩:=h;exact⟨⟨k,hs k hk,e⟩,fun a h=>hn a (ha a h)⟩
theorem iJ {α β:Type} {f:α->β} {l:List α} (nd:(l.map f).Nodup) {j k:α} (hj:j∈l) (hk:k∈l) (e:f j=f k):j=k:=by
 induction l with
 | nil=>cases hk
 | cons a r ih =>
  rw [Vg,VW] at nd;rcases Vn.mp hj with z|z <;> rcases Vn.mp hk with y|y
  ·rw [y,z]
  ·exact absurd (by rw [<- z,e];exact Vo y) nd.1
  ·exact absurd (by rw [<- y,<- e];exact Vo z) nd.1
  ·exact ih nd.2 z y
theorem K7.Tq (hG:KG ks) (hN:∀n∈os++ws,av n=true) (hW:∀n∈ws,great n=false) (ht:bZ t=true) (d:K7 ks os ws r):tY ks (fS r t):=by
 have hd:∀f∈r.take++r.keep,mz ks (os++ws) f:=fun f hf=>(Vd.mp hf).elim (fun h=>(d.take f h).sub (fun k hk=>(VC.mp hk).1) fun _ h=>h) (d.keep f)
 have Jb:∀n∈opens (r.take++r.keep)++ws,av n=true:=fun n hn=>(Vd.mp hn).elim (fun h=>by
  obtain⟨⟨f,hf,ha⟩,_⟩:=kh h;exact hN n ((hd f hf).2 n ha)) fun h=>hN n (Vh _ h)
 have fg:∀{ns f},(∀n∈ns,av n=true)->mz ks ns f->FG f/\aO ks f:=fun hn h=>by
  obtain⟨⟨k,hk,e1,e2⟩,ha⟩:=h;exact⟨⟨by rw [e1];exact(hG.ok k hk).1,fun a h=>hn a (ha a h),by rw [e2];exact(hG.ok k hk).2⟩,k,hk,e1.symm,e2⟩
 refine⟨ht,fun g hg=>(Vd.mp hg).elim (fun h=>fg hN (hd g h)) fun h=>fg Jb ((d.put g h).sub (fun k hk=>?_) fun _ h=>h),fun k hk=>⟨Jb _ (d.aj k hk).1,Jb _ (d.aj k hk).2⟩,fun k hk=>⟨Jb _ (d.tell k hk).1,Jb _ (d.tell k hk).2⟩,fun e e2=>?_,d.pe,fun f hf h=>?_,fun e f hf=>?_,fun a ha=>?_⟩
 ·split at hk
  ·exact(VC.mp hk).1
  ·exact hk
 ·have:=d.hd
  rw [show r.take=[] from e,show r.keep=[] from e2] at this;cases this
 ·obtain⟨⟨k,hk,e,_⟩,_⟩:=d.take f hf
  obtain⟨j,hj,e2⟩:=U6.mp h;obtain⟨hk,hp⟩:=VC.mp hk;obtain⟨hj,hl⟩:=VC.mp hj;rw [iJ hG.nd hj hk (e2.trans e)] at hl;unfold tZ at hp;rw [hl] at hp;cases hp
 ·obtain⟨⟨k,hk,e1,_⟩,_⟩:=d.put f hf
  rw [if_pos (show r.take=[] from e)] at hk;rw [e1];exact Vo hk
 ·have z:a∈opens (r.take++r.keep)++ws:=by
   unfold fv at ha;simp only [Vd,Yo,Vn,WR,or_false] at ha;rcases ha with⟨k,hk,e|e⟩|⟨f,hf,h⟩|⟨p,hp,e|e⟩
   ·rw [e];exact(d.aj k hk).1
   ·rw [e];exact(d.aj k hk).2
   ·exact(d.put f hf).2 a h
   ·rw [e];exact(d.tell p hp).1
   ·rw [e];exact(d.tell p hp).2
  exact⟨Jb a z,fun g=>(Vd.mp z).elim id fun h=>by rw [hW a h] at g;cases g⟩
end
theorem KG.DB {ks uC:List Kd} (hG:KG ks) (p:uC.Perm ks):KG uC:=by
 refine⟨by rw [p.length_eq];exact hG.len,(p.map _).nodup_iff.mpr hG.nd,fun k hk=>hG.ok k (p.mem_iff.mp hk),?_,?_⟩
 ·obtain⟨k,hk,e⟩:=hG.yes
  exact⟨k,p.mem_iff.mpr hk,e⟩
 ·obtain⟨k,hk,e⟩:=hG.no
  exact⟨k,p.mem_iff.mpr hk,e⟩
theorem sX {α:Type} (n:Nat) (l:List α):(l.drop n++l.take n).Perm l :=
 List.perm_append_comm.trans (by rw [X1])
noncomputable def jC (sm:Bool) (a b:Cs):Bool:=if sm=true then decide (a=b) else !great a && (!great b && !decide (a=b))
noncomputable def dW (st:bc) (k:Lk):Bool:=jC k.same (af st k.l) (af st k.r)
noncomputable def aD (st:bc) (r:Rl):List Fc:=(r.take++r.keep).map (wr st)
noncomputable def cS (ks:List Kd) (fU fM hs:List Fc) (h:Fc):Bool:=if h.k∈ak ks then decide (h∈fM) else decide (hs.countP (fun a=>decide (a=h))<=fU.countP (fun a=>decide (a=h)))
noncomputable def gn (ks:List Kd) (st:bc) (r:Rl) (fU fM:List Fc):Bool:=(aD st r).all (cS ks fU fM (aD st r))
noncomputable def gJ (st:bc) (r:Rl) (fM:List Fc):Bool:=(r.put.any fun f=>!decide (wr st f∈fM)) || (r.tell.any fun p=>!decide (af st p.1=af st p.2))
noncomputable def fw (ks:List Kd) (st:bc) (r:Rl) (fU fM:List Fc) (HP:Bool):Bool:=!HP && (r.aj.all (dW st) && (gn ks st r fU fM && (!decide (r.take=[]) || gJ st r fM)))
noncomputable def ao (r:Rl) (ns:List Cs):bc:=(opens (r.take++r.keep)).zip ns
noncomputable def cO (a:Cs):Prop:=av a=true/\great a=decide (a.headD 0=78)
noncomputable def rT (i:Nat):Cs:=[114,48+i]
noncomputable def aw (rs:List Rl):List Rl:=rs.zipIdx.map fun x=>fS x.1 (rT x.2)
structure sY (ks:List Kd) (ns ws:List Cs) (rs:List Rl):Prop where
 kg:KG ks
 n4:ns.length=4
 w2:ws.length=2
 wL:∀n∈ns++ws,cO n
 ng:∀n∈ns,great n=true
 wg:∀n∈ws,great n=false
 nd:(ns++ws).Nodup
 r2:rs.length=2
 rd:∀r∈rs,K7 ks (ns.take 3) ws r
theorem lH {r:Rl} {ns:List Cs} (h:ns.length=(opens (r.take++r.keep)).length):(ao r ns).map (·.1)=opens (r.take++r.keep):=by
 unfold ao;rw [List.map_fst_zip (by omega)]
theorem MQ {st:bc} {n v:Cs} (h:kj st n=some v):v∈st.map (·.2):=by
 unfold kj at h;obtain⟨e,h1,h2⟩:=Vj.mp h;rw [<- h2];exact Vo (Xu h1)
theorem DC {r:Rl} {ns:List Cs} {v:Cs} (h:v∈(ao r ns).map (·.2)):v∈ns:=by
 obtain⟨e,he,rfl⟩:=U6.mp h;exact(XX (show(e.1,e.2)∈_ from he)).2
theorem kq {rs:List Rl} {i:Nat} (h:i<rs.length):(aw rs)[i]?=some (fS rs[i] (rT i)):=by
 unfold aw;rw [Vs,List.getElem?_zipIdx,Ge9 h];simp
section
variable {ks:List Kd} {ns ws:List Cs} {rs:List Rl} (h:sY ks ns ws rs)
include h
theorem sY.nm:∀n∈ns.take 3++ws,av n=true:=fun n hn=>(Vd.mp hn).elim (fun z=>(h.wL n (Va _ (Wk z))).1) fun z=>(h.wL n (Vh _ z)).1
theorem sY.rl:∀r∈rs,∀i<2,tY ks (fS r (rT i)):=fun r hr i hi=>(h.rd r hr).Tq h.kg h.nm h.wg ((by decide +kernel:∀i<2,bZ (rT i)=true) i hi)
theorem sY.OM:(aw rs).length<=2/\(∀r∈aw rs,tY ks r)/\((aw rs).map (·.title)).Nodup:=by
 have z:=h.rl
 match rs,h.r2 with
 | [a,b],_=>exact⟨Vm 2,Yg.mpr ⟨z a (by simp) 0 (by decide),Yg.mpr ⟨z b (by simp) 1 (by decide),fun _ h=>nomatch h⟩⟩,show [rT 0,rT 1].Nodup by decide⟩
theorem sY.HQ {r:Rl} (hr:r∈rs):(opens (r.take++r.keep)).length<=3:=by
 have d:=h.rd r hr;have z:=pF _ (ns.take 3) (dU (r.take++r.keep)) fun x hx=>by
  obtain⟨⟨g,hg,QT⟩,gr⟩:=kh hx;have tW:x∈ns.take 3++ws:=(Vd.mp hg).elim (fun z=>(d.take g z).2 x QT) fun z=>(d.keep g z).2 x QT
  exact(Vd.mp tW).elim id fun z=>by rw [h.wg x z] at gr;cases gr
 rw [VS] at z;omega
end
theorem wM {left bp ts:List Fc} (h:∀f,left.count f=bp.count f - ts.count f) {g:Fc} (hg:g∈left):g∈bp:=by
 have z:=h g;have z2:=YE.mpr hg
 exact YE.mp (by omega)
noncomputable def DD (st:bc) (p:Cs × Cs):Cs × Cs:=(af st p.1,af st p.2)
noncomputable def jI (st:bc):Prop:=∀e∈st,cO e.1/\cO e.2
theorem jI.af {st:bc} (h:jI st) {a:Cs} (ha:cO a):cO (af st a):=by
 unfold Bk.af;cases Jc:kj st a with
 | none=>exact ha
 | some v =>
  unfold kj at Jc;obtain⟨e,h1,h2⟩:=Vj.mp Jc;rw [<- h2];exact(h e (Xu h1)).2
theorem jI.tell {st:bc} (h:jI st) {p q:Cs} (hp:cO p) (hq:cO q):jI (bJ st p q):=by
 unfold bJ;split
 ·exact h
 ·intro e he
  obtain⟨e',he',rfl⟩:=U6.mp he;refine⟨(h e' he').1,?_⟩;unfold km;dsimp only;split
  ·unfold Un.bj
   split
   ·exact hp
   ·split
    ·exact hq
    ·rcases Un.EK (lt:=fj) p q with e|e
     ·rw [e];exact hp
     ·rw [e];exact hq
  ·exact(h e' he').2
theorem EL {ks:List Kd} {st:bc} {r:Rl} {fU fM:List Fc} (h:gn ks st r fU fM=true) (ht:∀f∈r.take,f.k∉ak ks):short fU (r.take.map (wr st))=false:=by
 unfold short;rw [YK];intro f hf;unfold gn at h;have tW:f∈aD st r:=by
  unfold aD;rw [Vk];exact Va _ hf
 have z:=U7.mp h f tW;unfold cS at z;have hk:f.k∉ak ks:=by
  obtain⟨g,hg,rfl⟩:=U6.mp hf;exact ht g hg
 rw [if_neg hk] at z;have z:=of_decide_eq_true z
 have e1:∀l:List Fc,l.countP (fun a=>decide (a=f))=l.count f:=fun l=>by
  unfold List.count;congr 1
 rw [e1,e1] at z;have e2:(r.take.map (wr st)).count f<=(aD st r).count f:=by
  unfold aD;rw [Vk,WV];omega
 rw [decide_eq_true_eq];omega
theorem EM {st:bc} {f:Fc} (h:∀a∈f.as,af st a=a):wr st f=f:=by
 obtain⟨k,as⟩:=f;unfold wr;have e:as.map (af st)=as:=by
  have z:=VE (f:=af st) (g:=id) (l:=as) h;rw [z,Yr]
 show(⟨k,as.map (af st)⟩:Fc)=_;rw [e]
theorem AJ {st:bc} {l:List Fc} (h:∀f∈l,wr st f=f):l.map (wr st)=l:=by
 have z:=VE (f:=wr st) (g:=id) (l:=l) h;rw [z,Yr]
end Bk
namespace M
open PySem
open Bk (Fc Kd Lk Rl)
noncomputable def kT (k:Kd):T:=.tup [.str k.n,.int k.c,.bl k.l]
noncomputable def oy (k:Lk):T:=.tup [.str (Bk.fR k.same),.str k.l,.str k.r]
noncomputable def aR (r:Rl):T:=.obj "Rule" [("title",.str r.title),("taken",.lst (r.take.map fT)),("kept",.lst (r.keep.map fT)),("looks",.lst (r.aj.map lT)),("given",.lst (r.put.map fT)),("told",.lst (r.tell.map pT)),("names",.lst ((Bk.opens (r.take++r.keep)).map .str))]
noncomputable def jD (ks:List Kd) (rs:List Rl):T:=.obj "Book" [("kinds",.lst (ks.map kT)),("rules",.lst (rs.map aR))]
noncomputable def xT (r:Rl):T:=.tup [.lst (r.take.map fT),.lst (r.keep.map fT),.lst (r.aj.map oy),.lst (r.put.map fT),.lst (r.tell.map pT)]
noncomputable def aW (st:Bk.bc):T:=.aU (st.map fun p=>(.str p.1,.str p.2))
section
variable {L:aa} {f:Fc} {k:Kd} {p:Cs × Cs} {x y z u w:T} {r:List T}
theorem Tr:ix (fT f) (.int 0) L=.ok (.str f.k) L:=rfl
theorem Ts:ix (fT f) (.int 1) L=.ok (.tup (f.as.map .str)) L:=rfl
theorem Tt:ix (kT k) (.int 0) L=.ok (.str k.n) L:=rfl
theorem QU:ix (kT k) (.int 1) L=.ok (.int k.c) L:=rfl
theorem Tu:ix (kT k) (.int 2) L=.ok (.bl k.l) L:=rfl
theorem Tv:ix (pT p) (.int 0) L=.ok (.str p.1) L:=rfl
theorem Tw:ix (pT p) (.int 1) L=.ok (.str p.2) L:=rfl
theorem Tx {r:Rl}:ix (xT r) (.int 0) L=.ok (.lst (r.take.map fT)) L:=rfl
theorem Tz {r:Rl}:ix (xT r) (.int 1) L=.ok (.lst (r.keep.map fT)) L:=rfl
theorem TC {r:Rl}:ix (xT r) (.int 2) L=.ok (.lst (r.aj.map oy)) L:=rfl
theorem TF {r:Rl}:ix (xT r) (.int 3) L=.ok (.lst (r.put.map fT)) L:=rfl
theorem TG {r:Rl}:ix (xT r) (.int 4) L=.ok (.lst (r.tell.map pT)) L:=rfl
theorem TH {k:Lk}:ix (oy k) (.int 0) L=.ok (.str (Bk.fR k.same)) L:=rfl
theorem TJ {k:Lk}:ix (oy k) (.int 1) L=.ok (.str k.l) L:=rfl
theorem TK {k:Lk}:ix (oy k) (.int 2) L=.ok (.str k.r) L:=rfl
theorem qJ {xs:List T} {i:Nat} {x:T} (h:xs[i]?=some x):ix (.tup xs) (.int i) L=.ok x L:=by
 obtain⟨hi,e⟩:=Vl.mp h;simp [ix,vw,place,hi,e,lift]
theorem ON:ix (.tup (x::r)) (.int 0) L=.ok x L:=qJ (i:=0) rfl
theorem OO:ix (.tup (x::y::r)) (.int 1) L=.ok y L:=qJ (i:=1) rfl
theorem OP:ix (.tup (x::y::z::r)) (.int 2) L=.ok z L:=qJ (i:=2) rfl
theorem OQ:ix (.tup (x::y::z::u::r)) (.int 3) L=.ok u L:=qJ (i:=3) rfl
theorem HR:ix (.lst (x::r)) (.int 0) L=.ok x L:=cK (i:=0) rfl
theorem OR:ix (.lst (x::y::r)) (.int 1) L=.ok y L:=cK (i:=1) rfl
theorem OS:ix (.lst (x::y::z::r)) (.int 2) L=.ok z L:=cK (i:=2) rfl
theorem OT:ix (.lst (x::y::z::u::r)) (.int 3) L=.ok u L:=cK (i:=3) rfl
theorem OU:ix (.lst (x::y::z::u::w::r)) (.int 4) L=.ok w L:=cK (i:=4) rfl
theorem OV {v:T}:ix (.lst (x::y::z::u::w::v::r)) (.int 5) L=.ok v L:=cK (i:=5) rfl
theorem TL {r:Rl}:fld "taken" (aR r) L=.ok (.lst (r.take.map fT)) L:=rfl
theorem TM {r:Rl}:fld "kept" (aR r) L=.ok (.lst (r.keep.map fT)) L:=rfl
theorem TN {r:Rl}:fld "looks" (aR r) L=.ok (.lst (r.aj.map lT)) L:=rfl
theorem TQ {r:Rl}:fld "given" (aR r) L=.ok (.lst (r.put.map fT)) L:=rfl
theorem TR {r:Rl}:fld "told" (aR r) L=.ok (.lst (r.tell.map pT)) L:=rfl
theorem TS {r:Rl}:fld "names" (aR r) L=.ok (.lst ((Bk.opens (r.take++r.keep)).map .str)) L:=rfl
theorem TU {r:Rl}:fld "title" (aR r) L=.ok (.str r.title) L:=rfl
theorem TV {k:Lk}:fld "left" (lT k) L=.ok (.str k.l) L:=by cases h:k.same <;> simp [lT,h,fld,vw,lift,Z0]
theorem TX {k:Lk}:fld "right" (lT k) L=.ok (.str k.r) L:=by
 have:(("right":Str) == "left")=false:=by decide
 cases h:k.same <;> simp [lT,h,fld,vw,lift,Z0,this]
theorem TY {ks:List Kd} {rs:List Rl}:fld "kinds" (jD ks rs) L=.ok (.lst (ks.map kT)) L:=rfl
theorem flb {ks:List Kd} {rs:List Rl}:fld "rules" (jD ks rs) L=.ok (.lst (rs.map aR)) L:=rfl
theorem vf:vw L (fT f)=fT f:=rfl
theorem vk:vw L (kT k)=kT k:=rfl
theorem vp:vw L (pT p)=pT p:=rfl
theorem vx {r:Rl}:vw L (xT r)=xT r:=rfl
theorem vr {r:Rl}:vw L (aR r)=aR r:=rfl
theorem cR {c:T}:at_ (c::L) L.length=some c:=if_pos rfl
theorem sZ {c d:T}:at_ (d::c::L) L.length=some c:=by simp [at_]
theorem OW {c d e:T}:at_ (e::d::c::L) L.length=some c:=by
 unfold at_;rw [if_neg (by simp only [Vb];omega)];exact sZ
theorem u6 {c d:T}:at_ (d::c::L) (L.length+1)=some d:=by simp [at_]
theorem K8 {c d e:T}:at_ (e::d::c::L) (L.length+1)=some d:=by
 unfold at_;rw [if_neg (by simp only [Vb];omega)];exact u6
theorem K9 {c d e:T}:at_ (e::d::c::L) (L.length+2)=some e:=if_pos rfl
theorem u7 {c d:T}:put (c::L) L.length d=d::L:=by simp [put]
theorem La {c d e:T}:put (d::c::L) L.length e=d::e::L:=by simp [put]
theorem Lb {c d e:T}:put (d::c::L) (L.length+1) e=e::c::L:=by simp [put]
theorem iK {n:Nat}:vw L (.ref n)=(at_ L n).getD .b7:=rfl
theorem eG {α:Type} {a b:α}:(some a).getD b=a:=rfl
end
theorem jl {α:Type} {n:Nat} {g:α->T} (h:∀x,lt n (g x)=true):∀l:List α,cb n (l.map g)=true
 | []=>rfl
 | x::l=>by rw [Vg,cb,h x,jl h l];rfl
theorem kr {n:Nat} (l:List Cs):cb n (l.map .str)=true:=jl (fun _=>rfl) l
theorem QV {n:Nat} (l:List Int):cb n (l.map .int)=true:=jl (fun _=>rfl) l
theorem bg (n:Nat) (f:Fc):lt n (fT f)=true:=by simp [fT,lt,cb,kr]
theorem pG (n:Nat) (f:Kd):lt n (kT f)=true:=by simp [kT,lt,cb]
theorem fy (n:Nat) (f:Cs × Cs):lt n (pT f)=true:=by simp [pT,lt,cb]
theorem pH (n:Nat) (f:Lk):lt n (lT f)=true:=by simp [lT,lt,ow]
theorem u9 (n:Nat) (f:Lk):lt n (oy f)=true:=by simp [oy,lt,cb]
theorem lt_str (n:Nat) (x:Cs):lt n (.str x)=true:=by simp [lt]
theorem lt_int (n:Nat) (x:Int):lt n (.int x)=true:=by simp [lt]
theorem aq {α:Type} {n:Nat} {g:α->T} {l:List α} (h:∀n x,lt n (g x)=true):lt n (.lst (l.map g))=true:=by rw [lt];exact jl (h n) l
theorem b6 {α:Type} {n:Nat} {g:α->T} {l:List α} (h:∀n x,lt n (g x)=true):lt n (.tup (l.map g))=true:=by rw [lt];exact jl (h n) l
theorem Lc (n:Nat) (r:Rl):lt n (xT r)=true:=by simp [xT,lt,cb,jl,bg,fy,u9]
theorem mP (n:Nat) (r:Rl):lt n (aR r)=true:=by simp [aR,lt,ow,jl,bg,fy,pH,kr]
theorem OX (n:Nat) (ks:List Kd) (rs:List Rl):lt n (jD ks rs)=true:=by simp [jD,lt,ow,jl,pG,mP]
theorem nU (n:Nat):∀st:Bk.bc,lt n (aW st)=true
 | []=>rfl
 | (a,b)::st=>by have:=nU n st;simp only [aW,lt,Vg,BO] at this ⊢;simp [lt,this]
theorem fA {L:aa} {c t:T} (h:lt L.length t=true):fin L t (c::L)=.ok t L:=sM (Ln:=[c]) h
theorem QW {L:aa} {c d t:T} (h:lt L.length t=true):fin L t (d::c::L)=.ok t L:=sM (Ln:=[d,c]) h
theorem dj (L:aa):old L L:=fun _ _ e=>.inl e
theorem AK {L Ln:aa} {c:T} {n:Nat} (ha:at_ (Ln++L) n=some c) (hn:L.length<=n) (h:lt L.length c=true):fin L (.ref n) (Ln++L)=.ok c L:=by
 have e:(Ln++L).drop ((Ln++L).length - L.length)=L:=by rw [U3,Zt,YS]
 unfold fin;rw [e,if_pos (dj L)];unfold cf;have:¬ lt L.length (.ref n)=true:=by rw [lt];simp;omega
 rw [if_neg this];simp only [ha];unfold cf;rw [if_pos h];rfl
theorem fB {L:aa} {c:T} (h:lt L.length c=true):fin L (.ref L.length) (c::L)=.ok c L:=AK (Ln:=[c]) cR (Vm _) h
theorem HS {L:aa} {c d:T} (h:lt L.length d=true):fin L (.ref (L.length+1)) (d::c::L)=.ok d L:=AK (Ln:=[d,c]) u6 (Xe _) h
theorem Ld {a b:Cs} {L:aa}:E9 (.str a) (.str b) L=.ok (a == b) L:=rfl
theorem Lf {a b:Int} {L:aa}:E9 (.int a) (.int b) L=.ok (a == b) L:=rfl
theorem Lg {α:Type} {r:R α}:b8 (0<=lim) r=r:=if_pos (VK _)
theorem Lh {α:Type} {r:R α}:b8 (0+1<=lim) r=r:=if_pos (by decide)
theorem HT {α:Type} {r:R α}:b8 (1<=lim) r=r:=if_pos (by decide)
theorem Li {α:Type} {r:R α}:b8 (2<=lim) r=r:=if_pos (by decide)
theorem Lj {α:Type} {r:R α}:b8 (3<=lim) r=r:=if_pos (by decide)
theorem Ll {α:Type} {r:R α}:b8 (4<=lim) r=r:=if_pos (by decide)
theorem Lm {α:Type} {r:R α}:b8 (5<=lim) r=r:=if_pos (by decide)
theorem Lq {α:Type} {r:R α}:b8 (6<=lim) r=r:=if_pos (by decide)
theorem OY (n:Nat):(n:Int)+1=((n+1:Nat):Int):=rfl
theorem OZ (n:Nat):(n:Int)+2=((n+2:Nat):Int):=rfl
theorem O3:S ")"=[41]:=rfl
theorem O4:S "("=[40]:=rfl
theorem O5:S ","=[44]:=rfl
theorem O6:S " "=[32]:=rfl
theorem O7:S ":"=[58]:=rfl
theorem O8:S ";"=[59]:=rfl
theorem O9:S "="=[61]:=rfl
theorem Pa:S ""=[]:=rfl
theorem Pb:S "#"=[35]:=rfl
theorem Lr {α:Type} {r:R α} [Decidable True]:b8 True r=r:=if_pos trivial
theorem Pc {fz:Bool} {i j:Int} {L:aa}:aZ fz .Add (.int i) (.int j) L=.ok (.int (i+j)) L:=rfl
theorem Pd {fz:Bool} {i j:Int} {L:aa}:aZ fz .Sub (.int i) (.int j) L=.ok (.int (i - j)) L:=rfl
theorem Pe {fz:Bool} {i j:Int} {L:aa}:aZ fz .Mult (.int i) (.int j) L=b8 (vJ i j) (.ok (.int (i * j)) L):=rfl
theorem Pf {fz:Bool} {i j:Int} {L:aa}:aZ fz .FloorDiv (.int i) (.int j) L=b8 (yk j) (.ok (.int (i / j)) L):=rfl
theorem Pg {fz:Bool} {i j:Int} {L:aa}:aZ fz .Mod (.int i) (.int j) L=b8 (0<j) (.ok (.int (i % j)) L):=rfl
theorem TZ {fz:Bool} {i j:Int} {L:aa}:aZ fz .Pow (.int i) (.int j) L=b8 (E8 i j) (.ok (.int (i ^ j.toNat)) L):=rfl
theorem Ls {fz:Bool} {a b:Cs} {L:aa}:aZ fz .Add (.str a) (.str b) L=b8 (a.length+b.length<=lim) (.ok (.str (a++b)) L):=rfl
theorem Ph {fz:Bool} {ch:Nat} {j:Int} {L:aa}:aZ fz .Mult (.str [ch]) (.int j) L=b8 (t5 j) (.ok (.str (VI j.toNat ch)) L):=rfl
theorem Pj {fz:Bool} {a b:List T} {L:aa}:aZ fz .Add (.lst a) (.lst b) L=eC fz (a++b) L:=rfl
theorem EN (a b:SE) (φ:Fr) (L:aa) {i j:Int} {L1 L2:aa} (ha:a φ L=.ok (.int i) L1) (hb:b φ L1=.ok (.int j) L2) (hi:t6 i/\t6 j):yl a b φ L=.ok (upTo i (j - i).toNat,fun _=>True) L2:=by
 unfold yl;rw [ha,aI,hb,aI];exact if_pos hi
theorem wN {n:Nat} (h:n<=1000000):t6 n:=by unfold t6;constructor <;> omega
theorem Pk {y:T} {xs:List T} {L:aa}:ix (.ref L.length) y (.lst xs::L)=ix (.lst xs) y (.lst xs::L):=by unfold ix;simp only [iK,cR,eG];rfl
theorem Lu {fz:Bool} {a b:Option Int} {xs:List T} {L:aa}:jd fz (.ref L.length) a b (.lst xs::L)=jd fz (.lst xs) a b (.lst xs::L):=by unfold jd;simp only [iK,cR,eG];rfl
theorem Pm {fz:Bool} {a b:Option Int} {xs:List T} {c:T} {L:aa}:jd fz (.ref (L.length+1)) a b (.lst xs::c::L)=jd fz (.lst xs) a b (.lst xs::c::L):=Lu (L:=c::L)
theorem Pn {c d e f:T} {L:aa}:put (e::d::c::L) (L.length+2) f=f::d::c::L:=u7 (L:=d::c::L)
theorem au {α:Type} {c:Prop} {i:Decidable c} {r:R α} (h:c):@b8 α c i r=r:=if_pos h
theorem Lv {a b:Cs}:(a != b) = !(a == b):=rfl
theorem Po {ch:Nat} {b:Cs} {L:aa}:oA (.str [ch]) (.str b) L=.ok (decide (ch∈b)) L:=rfl
theorem any_eq {α:Type} [DecidableEq α] {g:α->T} (hg:∀a b,eqT (g a) (g b)=decide (a=b)) (x:α):∀ys:List α,((ys.map g).any fun y=>eqT y (g x))=decide (x∈ys)
 | []=>by simp
 | y::ys=>by
  rw [Vg,List.any_cons,any_eq hg x ys,hg,<- Bool.decide_or];exact decide_eq_decide.mpr ⟨fun h=>h.elim (fun e=>by rw [e];exact U4) (U5 _),fun h=>(Vn.mp h).imp Eq.symm id⟩
theorem fV {α:Type} {g:α->T} {n:Nat} (h:∀a,dat n (g a)=true) (l:List α):(l.map g).all (dat n)=true:=by simp [h]
theorem EO (a b:Cs):eqT (.str a) (.str b)=decide (a=b):=by
 show(a == b)=_;by_cases h:a=b <;> simp [h]
theorem ER {α:Type} [DecidableEq α] {f:T->T->Bool} {g:α->T} (h:∀a b,f (g a) (g b)=decide (a=b)):∀a b:List α,ou f (a.map g) (b.map g)=decide (a=b)
 | [],[]=>by simp [ou]
 | [],_::_=>by simp [ou]
 | _::_,[]=>by simp [ou]
 | x::a,y::b=>by
  rw [Vg,Vg,ou,h,ER h a b];by_cases h1:x=y <;> by_cases h2:a=b <;> simp [h1,h2]
theorem ES (n:Nat) (a b:Cs):vI (n+1) (.str a) (.str b)=decide (a=b):=by
 show(a == b)=_;by_cases h:a=b <;> simp [h]
theorem s9 (a b:Fc):eqT (fT a) (fT b)=decide (a=b):=by
 obtain⟨k,as⟩:=a;obtain⟨k',as'⟩:=b;show(vI 7 (.str k) (.str k') && (ou (vI 6) (as.map .str) (as'.map .str) && true))=_
 rw [ES,ER (ES 5)];by_cases h1:k=k' <;> by_cases h2:as=as' <;> simp [h1,h2]
theorem wO (n:Nat) (a:Cs):dat (n+1) (.str a)=true:=rfl
theorem jm (a:Fc):dat 8 (fT a)=true:=by
 show(dat 7 (.str a.k) && ((a.as.map .str).all (dat 6) && true))=true;rw [wO,fV (wO 5)];rfl
theorem DE {x:Cs} {ys:List Cs} {L:aa}:oA (.str x) (.lst (ys.map .str)) L=.ok (decide (x∈ys)) L:=by
 show b8 _ _=_;rw [aV ⟨rfl,fV (wO 7) ys⟩,any_eq EO];exact congrArg (R.ok · L) (decide_eq_decide.mpr Iff.rfl)
theorem Lw {x:Cs} {ys:List Cs} {L:aa}:oA (.str x) (.tup (ys.map .str)) L=.ok (decide (x∈ys)) L:=by
 show b8 _ _=_;rw [aV ⟨rfl,fV (wO 7) ys⟩,any_eq EO];exact congrArg (R.ok · L) (decide_eq_decide.mpr Iff.rfl)
theorem Pp {x:Cs} {t:T} {ys:List Cs} {L:aa} (h:vw L t=.lst (ys.map .str)):oA (.str x) t L=.ok (decide (x∈ys)) L:=by
 have:=DE (x:=x) (ys:=ys) (L:=L);unfold oA at this ⊢;rw [h];exact this
theorem Lx {x:Fc} {t:T} {ys:List Fc} {L:aa} (h:vw L t=.lst (ys.map fT)):oA (fT x) t L=.ok (decide (x∈ys)) L:=by
 have:oA (fT x) (.lst (ys.map fT)) L=.ok (decide (x∈ys)) L:=by
  show b8 _ _=_;rw [aV ⟨jm x,fV jm ys⟩,any_eq s9]
 unfold oA at this ⊢;rw [h];exact this
theorem Ly {x:Fc} {ys:List Fc} {L:aa}:oA (fT x) (.lst (ys.map fT)) L=.ok (decide (x∈ys)) L:=by
 show b8 _ _=_;rw [aV ⟨jm x,fV jm ys⟩,any_eq s9]
theorem Lz {x:Fc} {ys:List Fc} {L:aa}:oA (fT x) (.tup (ys.map fT)) L=.ok (decide (x∈ys)) L:=by
 show b8 _ _=_;rw [aV ⟨jm x,fV jm ys⟩,any_eq s9]
section
variable {β:Type} {s:SI} {aY:List (Option Nat)} {i:Nat} {ts:ST} {m:SE} {φ:Fr} {L:aa} {k:aa->Prop} {r:R T} {fz:Bool}
theorem dm (hc:comp fz s aY (.one i) ts m φ L=r) (xs:List β) (enc:β->T) (p:β->Bool) (f:β->T) (hs:s φ L=.ok (xs.map enc,k) L) (hk:k L) (hl:xs.length<=lim)
  (ht:∀b∈xs,ts ((inner aY φ).set i (some (enc b))) L=.ok (p b) L) (hm:∀b∈xs,p b=true->m ((inner aY φ).set i (some (enc b))) L=.ok (f b) L):r=mk fz (.lst ((xs.filter p).map f)) L:=by
 subst hc;have key:∀(ys:List β) (acc:List T),(∀b∈ys,b∈xs)->acc.length+ys.length<=lim->compLoop k (.one i) ts m (inner aY φ) (ys.map enc) acc L=.ok (acc++(ys.filter p).map f) L:=by
  intro ys;induction ys with
  | nil=>intro acc _ _;simp [compLoop,hk]
  | cons b ys ih =>
   intro acc hb hz;have hx:=hb b U4
   simp only [Vb] at hz;rw [Vg,compLoop,if_pos ⟨hk,by omega⟩];simp only [Tg.set,ht b hx,aI];cases hp:p b with
   | true=>rw [if_pos rfl,hm b hx hp,aI,ih _ (fun c hc=>hb c (U5 _ hc)) (by simp;omega)];simp [hp]
   | false=>rw [if_neg (by simp),ih _ (fun c hc=>hb c (U5 _ hc)) (by omega)];simp [hp]
 rw [comp,hs,aI,key xs [] (fun _ h=>h) (by simpa using hl),aI];rfl
theorem aS (hc:comp fz s aY (.one i) yes m φ L=r) (xs:List β) (enc:β->T) (f:β->T) (hs:s φ L=.ok (xs.map enc,k) L) (hk:k L) (hl:xs.length<=lim)
  (hm:∀b∈xs,m ((inner aY φ).set i (some (enc b))) L=.ok (f b) L):r=mk fz (.lst (xs.map f)) L:=by
 have:=dm hc xs enc (fun _=>true) f hs hk hl (fun _ _=>rfl) fun b hb _=>hm b hb
 rw [this,XG.mpr (fun _ _=>rfl)]
end
noncomputable def zW (Q:Fr->aa->Prop) (R:T->aa->Prop) (B:Fr->aa->Prop):O->Prop
 | .nx φ L=>Q φ L
 | .ct φ L=>Q φ L
 | .rt t L=>R t L
 | .bk φ L=>B φ L
 | .bad=>False
theorem pJ {Q R B φ L}:zW Q R B (.nx φ L)=Q φ L:=rfl
theorem LA {Q R B φ L}:zW Q R B (.ct φ L)=Q φ L:=rfl
theorem LB {Q R B t L}:zW Q R B (.rt t L)=R t L:=rfl
theorem LC {Q R B φ L}:zW Q R B (.bk φ L)=B φ L:=rfl
section
variable {β:Type} {k:aa->Prop} {tg:Tg} {b:SS} {φ:Fr} {L:aa} {o:O} {ts:List T}
theorem cT (ho:forL k tg b ts φ L=o) (xs:List β) (enc:β->T) (J:List β->Fr->aa->Prop) (P:O->Prop) (hx:ts=xs.map enc) (hJ:J xs φ L)
  (step:∀(J':List β->Fr->aa->Prop) (P':O->Prop),(∀{r φ L},J' r φ L=J r φ L)->(∀{o},P' o=P o)->∀x r φ L,J (x::r) φ L->k L/\∃φ1,tg.set (enc x) φ=some φ1/\zW (J' r) (fun t L=>P' (.rt t L)) (fun φ L=>P' (.nx φ L)) (b φ1 L))
  (done:∀φ L,J [] φ L->k L/\P (.nx φ L)):P o:=by
 subst ho hx
 replace step:=step J P rfl rfl
 induction xs generalizing φ L with
 | nil=>obtain⟨h1,h2⟩:=done φ L hJ;rw [V7,forL,if_pos h1];exact h2
 | cons x r ih =>
  obtain⟨h1,φ1,h2,h3⟩:=step x r φ L hJ;rw [Vg,forL,if_pos h1];simp only [h2];cases e:b φ1 L with
  | nx φ2 L2=>rw [e] at h3;exact ih h3
  | ct φ2 L2=>rw [e] at h3;exact ih h3
  | rt t L2=>rw [e] at h3;exact h3
  | bk φ2 L2=>rw [e] at h3;exact h3
  | bad=>rw [e] at h3;exact h3.elim
theorem lJ {α:Type} {i:Nat} (xs:List α) (enc:α->T) (F:Option T->Fr) {z:Option T} (ho:forL k (.one i) b (xs.map enc) (F z) L=o) (hk:k L) (hF:∀z x,(F z).set i (some x)=F (some x)) (hb:∀x∈xs,b (F (some (enc x))) L=.nx (F (some (enc x))) L):∃z,o=.nx (F z) L :=
 cT ho xs enc (fun r φ L'=>(∀x∈r,x∈xs)/\L'=L/\∃z,φ=F z) (fun o=>∃z,o=.nx (F z) L) rfl ⟨fun _ h=>h,rfl,z,rfl⟩ (fun _ _ eJ eP x r φ L' hh=>by
  obtain⟨h,rfl,z,rfl⟩:=hh;refine⟨hk,_,rfl,?_⟩;rw [hF,hb x (h x U4),pJ,eJ];exact⟨fun y hy=>h y (U5 _ hy),rfl,_,rfl⟩) fun φ L' hh=>by
  obtain⟨_,rfl,z,rfl⟩:=hh;exact⟨hk,z,rfl⟩
theorem ta {α β γ:Type} {i:Nat} (xs:List α) (enc:α->T) (E:β->T) (g:β->α->β) (N:List α->β->Prop) (F:Option T->γ->Fr) {z:Option T} {w:γ} {s:β} (ho:forL k (.one i) b (xs.map enc) (F z w) (E s::L)=o) (hk:∀L,k L) (hF:∀z w x,(F z w).set i (some x)=F (some x) w) (hN:N xs s)
  (hb:∀x r s w,N (x::r) s->N r (g s x)/\∃w',b (F (some (enc x)) w) (E s::L)=.nx (F (some (enc x)) w') (E (g s x)::L)):∃z w,o=.nx (F z w) (E (xs.foldl g s)::L) :=
 cT ho xs enc (fun r φ L'=>∃z w s',N r s'/\r.foldl g s'=xs.foldl g s/\φ=F z w/\L'=E s'::L) (fun o=>∃z w,o=.nx (F z w) (E (xs.foldl g s)::L)) rfl ⟨z,w,s,hN,rfl,rfl,rfl⟩ (fun _ _ eJ eP x r φ L' hh=>by
  obtain⟨z,w,s',h,e,rfl,rfl⟩:=hh;refine⟨hk _,_,rfl,?_⟩;obtain⟨h1,w',h2⟩:=hb x r s' w h;rw [hF,h2,pJ,eJ];exact⟨_,w',_,h1,e,rfl,rfl⟩) fun φ L' hh=>by
  obtain⟨z,w,s',_,e,rfl,rfl⟩:=hh;exact⟨hk _,z,w,by rw [<- e];rfl⟩
theorem wQ {kk:ST} {fuel:Nat} (ho:rA kk b fuel φ L=o) (J:Nat->Fr->aa->Prop) (P:O->Prop) {n:Nat} (hn:n<fuel) (hJ:J n φ L)
  (step:∀(J':Nat->Fr->aa->Prop) (P':O->Prop),(∀{r φ L},J' r φ L=J r φ L)->(∀{o},P' o=P o)->∀n φ L,J n φ L->(kk φ L=.ok false L/\P' (.nx φ L))\/(kk φ L=.ok true L/\zW (fun φ L=>∃m,m<n/\J' m φ L) (fun t L=>P' (.rt t L)) (fun φ L=>P' (.nx φ L)) (b φ L))):P o:=by
 subst ho
 replace step:=step J P rfl rfl
 induction fuel generalizing n φ L with
 | zero=>omega
 | succ fuel ih =>
  rw [rA];rcases step n φ L hJ with⟨h1,h2⟩|⟨h1,h3⟩
  ·simp only [h1,of_ok];exact h2
  ·simp only [h1,of_ok,if_true]
   cases e:b φ L with
   | nx φ2 L2=>rw [e] at h3;obtain⟨m,hm,hj⟩:=h3;exact ih (by omega) hj
   | ct φ2 L2=>rw [e] at h3;obtain⟨m,hm,hj⟩:=h3;exact ih (by omega) hj
   | rt t L2=>rw [e] at h3;exact h3
   | bk φ2 L2=>rw [e] at h3;exact h3
   | bad=>rw [e] at h3;exact h3.elim
end
theorem LD (n:Nat) (k:Int) (φ:Fr) (L:aa):vi n k φ L=(lift ((φ[n]?).join) L).bind fun x L1=>ix x (.int k) L1:=rfl
theorem ite_tt {α:Type} {a b:α}:(if true=true then a else b)=a:=rfl
theorem ite_ff {α:Type} {a b:α}:(if false=true then a else b)=b:=rfl
end M
section
open M
set_option hygiene false in
local macro_rules|`(tactic| simp_arith $[$d:discharger]? [$ls,*])=>`(tactic| simp $[$d:discharger]? only [↓ite_tt,↓ite_ff,LD,lX,qH,gY,Ja,QP,OI,KR,Ht,OJ,Hu,KS,Hv,Hw,KU,Hx,KV,KW,EH,KY,Hy,OK,AA,AB,KZ,Hz,HA,HB,K0,K1,K2,sL,K3,wH,K4,K5,HC,HD,HE,AD,Dv,Dw,HF,HG,Dx,Dy,HH,HI,nM,nN,HJ,HK,HL,Ee,Xl,eC,_root_.M.mk,Pc,Pd,Pe,Pf,yk,t5,Pg,Ls,Ph,Pj,_root_.M.cmp,BZ,Mt,Mu,Mw,Fb,Po,DE,Lw,Ly,Lz,_root_.M.vw,II,aI,of_ok,j9,Dr,fh,Hr,Tg.set,_root_.M.sets,bH,Az,Ds,Dt,Du,Hs,_root_.M.neg,ag,
 Vb,VH,Vg,V7,WS,VP,VI,XF,aab,XJ,Zu,Zv,if_true,reduceIte,Vi,YF,aac,Nat.zero_add,Tr,Ts,Tt,QU,Tu,Tv,Tw,Tx,Tz,TC,TF,TG,TH,TJ,TK,ON,OO,OP,OQ,HR,OR,OS,OT,OU,OV,TU,TL,TM,TN,TQ,TR,TS,TV,TX,TY,flb,vf,vk,vp,vx,vr,cR,sZ,OW,u6,K8,K9,u7,La,Lb,Pn,Pk,Lu,Pm,iK,eG,pJ,LA,LB,LC,_root_.M.inner,aG,bS,iD,iY,qt,lz,mM,mL,gR,B2,_root_.M.items,iz,Option.map_some,Xl,WW,Xc,Lm9,Ld,Lf,Lg,Lh,HT,Li,Lj,Ll,Lm,Lq,OY,OZ,O3,O4,O5,O6,O7,O8,O9,Pa,Pb,Lv,List.cons_beq_cons,Nat.reduceBEq,X8,aaa,XK,YR,beq_self_eq_true,Lr,Int.reduceLT,Int.reduceLE,Int.reduceNeg,Int.reducePow,Int.reduceToNat,vJ,and_self,or_true,true_or,$ls,*])
local macro_rules|`(tactic| simp_arith)=>`(tactic| simp_arith [lX])
local macro_rules|`(tactic| simp_all_arith [$ls,*])=>`(tactic| simp_arith (disch:=first|assumption|(simp only [U3,Vb,VH,Lm9,VS,VM,lim] <;> omega)|omega) [au,$ls,*])
local macro_rules|`(tactic| simp_all_arith)=>`(tactic| simp_all_arith [lX])
namespace ET
open PySem M
open EI (fL av dN)
open Bk (Fc Kd Lk Rl bZ great aQ W Tk HO between di glue FG ji jj wordAt fR rows iy jk tY Im fI lI pI fq iG iZ opens fu sP fv aO KG ak ay cm mz nameOf tZ K7 MO cO sR ip iH pE aw nQ nR sY af kj wr iu g6 bJ km cq bc fj aJ jI lw dW jC aD cS gn gJ fw ao DD fS rT)
open Un (bj told mn)
def ku:T:=.str (S "abcdefghijklmnopqrstuvwxyz")
def ky:T:=.str (S "ABCDEFGHIJKLMNOPQRSTUVWXYZ")
def lK:T:=.str (S "0123456789")
def lL:T:=.int 12
def aP:T:=.tup [.tup [],.tup [],.tup [],.bl true]
def g9:T:=.str (S "(),:;=")
def hO:T:=.tup [.str (S "passing"),.str (S "lasting")]
def cU:T:=.str (S "rule")
def bO:T:=.tup [.str (S "take"),.str (S "keep"),.str (S "look"),.str (S "put"),.str (S "tell")]
def nV:T:=.tup [.str (S "0"),.str (S "1"),.str (S "2"),.str (S "3"),.str (S "4")]
def bU:Fn:=run 2 2 (ab [ret (aN (bS) (v 1) [v 0,v 0])])
def bE:Fn:=run 2 2 (ab [iff (tv (b2 (v 1) (ae bH [v 0]) (cmp .Lt))) (ab [ret (b2 (v 0) (v 1) ix)]) (ab []),ret (c (.int 0))])
def ax:Fn:=run 2 5 (ab [asg (.one 2) (b2 (b2 (b2 (v 0) (c (.int 2147483647)) (aZ true .Mod)) (c (.int 48271)) (aZ true .Mult)) (c (.int 2147483647)) (aZ true .Mod)),asg (.one 3) (lst false []),bG (src (v 1)) (.one 4) (ab [gd (aN (aG) (v 3) [b2 (v 2) (v 4) (aZ true .Mod)]),asg (.one 2) (b2 (v 2) (v 4) (aZ true .FloorDiv))]),ret (v 3)])
def bo:Fn:=run 2 4 (ab [asg (.one 2) (b2 (c (.int 1)) (b2 (v 0) (c (.int 5)) (aZ true .Mod)) (aZ true .Add)),asg (.one 3) (b2 (b2 (v 0) (c (.int 5)) (aZ true .FloorDiv)) (v 2) (aZ true .Mod)),ret (b2 (b2 (b2 (c (.str (S "m"))) (v 3) (aZ true .Mult)) (b2 (c (.str (S "abcdefgh"))) (v 1) ix) (aZ true .Add)) (b2 (c (.str (S "m"))) (b2 (b2 (v 2) (c (.int 1)) (aZ true .Sub)) (v 3) (aZ true .Sub)) (aZ true .Mult)) (aZ true .Add))])
def eL:Fn:=run 1 3 (ab [asg (.one 1) (ae ax [v 0,lst true [c (.int 25),c (.int 2),c (.int 4),c (.int 2),c (.int 4)]]),asg (.one 2) (lst true [tup [ae bo [vi 1 0,c (.int 0)],vi 1 1,c (.bl false)],tup [ae bo [vi 1 0,c (.int 1)],b2 (tup [c (.int 0),c (.int 1),c (.int 2),c (.int 4)]) (vi 1 2) ix,c (.bl false)]]),asg (.one 2) (b2 (v 2) (lst true [tup [ae bo [vi 1 0,c (.int 2)],c (.int 2),c (.bl true)],tup [ae bo [vi 1 0,c (.int 3)],vi 1 3,c (.bl true)]]) (aZ true .Add)),ret (b2 (sl true (v 2) (some (vi 1 4)) none) (sl true (v 2) none (some (vi 1 4))) (aZ true .Add))])
def aE:Fn:=run 3 6 (ab [asg (.one 3) (b2 (v 0) (b2 (v 1) (ae bH [v 0]) (aZ true .Mod)) ix),asg (.one 1) (b2 (v 1) (ae bH [v 0]) (aZ true .FloorDiv)),asg (.one 4) (lst false []),bG (yl (c (.int 0)) (vi 3 1)) (.one 5) (ab [gd (aN (aG) (v 4) [b2 (v 2) (b2 (v 1) (ae bH [v 2]) (aZ true .Mod)) ix]),asg (.one 1) (b2 (v 1) (ae bH [v 2]) (aZ true .FloorDiv))]),ret (tup [vi 3 0,ae iz [v 4]])])
def dn:Fn:=run 3 8 (ab [asg (.one 3) (comp true (src (v 0)) [none,none] (.one 1) (fF (tv (vi 1 2))) (v 1)),asg (.one 4) (ae ax [v 1,lst true [c (.int 3),c (.int 3),c (.int 512),c (.int 512)]]),asg (.one 5) (ae ax [b2 (b2 (b2 (v 1) (c (.int 2147483629)) (aZ true .Mod)) (c (.int 69621)) (aZ true .Mult)) (c (.int 2147483629)) (aZ true .Mod),lst true [c (.int 1024),c (.int 1024)]]),asg (.one 6) (sl true (lst true [ae aE [v 3,vi 4 2,v 2],ae aE [v 3,vi 4 3,v 2]]) none (some (vi 4 0))),asg (.one 7) (sl true (lst true [ae aE [v 0,vi 5 0,v 2],ae aE [v 0,vi 5 1,v 2]]) none (some (vi 4 1))),iff (tv (b2 (b2 (ae bH [v 6]) (ae bH [v 7]) (aZ true .Add)) (c (.int 0)) (cmp .Eq))) (ab [asg (.one 7) (lst true [ae aE [v 0,vi 5 0,v 2]])]) (ab []),ret (tup [v 6,v 7])])
def eO:Fn:=run 2 4 (ab [asg (.one 2) (ae ax [v 1,lst true [c (.int 3),c (.int 5),c (.int 5),c (.int 5),c (.int 5),c (.int 5)]]),asg (.one 3) (lst false [tup [c (.str (S "same")),b2 (v 0) (b2 (vi 2 1) (ae bH [v 0]) (aZ true .Mod)) ix,b2 (v 0) (b2 (vi 2 2) (ae bH [v 0]) (aZ true .Mod)) ix]]),iff (tv (b2 (vi 2 0) (c (.int 2)) (cmp .Lt))) (ab [asg (.one 3) (sl false (lst false [tup [c (.str (S "unlike")),b2 (vi 3 0) (c (.int 1)) ix,b2 (vi 3 0) (c (.int 2)) ix]]) none (some (vi 2 0)))]) (ab []),iff (tv (b2 (vi 2 3) (c (.int 2)) (cmp .Lt))) (ab [gd (aN (aG) (v 3) [tup [b2 (tup [c (.str (S "same")),c (.str (S "unlike"))]) (vi 2 3) ix,b2 (v 0) (b2 (vi 2 4) (ae bH [v 0]) (aZ true .Mod)) ix,b2 (v 0) (b2 (vi 2 5) (ae bH [v 0]) (aZ true .Mod)) ix]])]) (ab []),ret (v 3)])
def cD:Fn:=run 1 4 (ab [asg (.one 1) (lst false []),bG (src (v 0)) (.one 2) (ab [bG (src (vi 2 1)) (.one 3) (ab [iff (jf [tv (b2 (vi 3 0) (c (.str (S "N"))) (cmp .Eq)),tv (b2 (v 3) (v 1) (cmp .NotIn))]) (ab [gd (aN (aG) (v 1) [v 3])]) (ab [])])]),ret (v 1)])
def fW:Fn:=run 5 11 (ab [asg (.one 5) (ae dn [v 0,v 1,v 3]),asg (.one 6) (b2 (ae cD [b2 (vi 5 0) (vi 5 1) (aZ true .Add)]) (v 4) (aZ true .Add)),iff (tv (b2 (ae bH [vi 5 0]) (c (.int 0)) (cmp .Eq))) (ab [asg (.one 0) (comp true (src (v 0)) [none,none] (.one 1) (tv (vi 1 2)) (v 1))]) (ab []),asg (.one 7) (ae ax [v 2,lst true [c (.int 3),c (.int 2500),c (.int 2500)]]),asg (.one 8) (sl true (lst true [ae aE [v 0,vi 7 1,v 6],ae aE [v 0,vi 7 2,v 6]]) none (some (vi 7 0))),asg (.one 9) (ae eO [v 6,b2 (b2 (b2 (v 2) (c (.int 2147483629)) (aZ true .Mod)) (c (.int 69621)) (aZ true .Mult)) (c (.int 2147483629)) (aZ true .Mod)]),asg (.one 7) (ae ax [b2 (b2 (b2 (v 2) (c (.int 2147483629)) (aZ true .Mod)) (c (.int 40692)) (aZ true .Mult)) (c (.int 2147483629)) (aZ true .Mod),lst true [c (.int 2),c (.int 5),c (.int 5),c (.int 3),c (.int 5),c (.int 5)]]),asg (.one 10) (sl false (lst false [tup [b2 (v 6) (b2 (vi 7 1) (ae bH [v 6]) (aZ true .Mod)) ix,b2 (v 6) (b2 (vi 7 2) (ae bH [v 6]) (aZ true .Mod)) ix]]) none (some (vi 7 0))),iff (tv (b2 (vi 7 3) (c (.int 1)) (cmp .Eq))) (ab [gd (aN (aG) (v 10) [tup [b2 (v 6) (b2 (vi 7 4) (ae bH [v 6]) (aZ true .Mod)) ix,b2 (v 6) (b2 (vi 7 5) (ae bH [v 6]) (aZ true .Mod)) ix]])]) (ab []),ret (tup [vi 5 0,vi 5 1,v 9,v 8,v 10])])
def dX:Fn:=run 1 9 (ab [asg (.one 1) (ae eL [ae bE [v 0,c (.int 0)]]),asg (.one 2) (b2 (ae bE [v 0,c (.int 1)]) (c (.int 25)) (aZ true .Mod)),asg (.one 3) (comp true (yl (c (.int 0)) (c (.int 4))) [none,none,some 2] (.one 1) yes (b2 (c (.str (S "N"))) (ae bo [v 2,v 1]) (aZ true .Add))),asg (.one 4) (lst true [ae bo [v 2,c (.int 4)],ae bo [v 2,c (.int 5)]]),asg (.one 5) (lst false []),bG (src (tup [c (.int 2),c (.int 4)])) (.one 6) (ab [asg (.one 7) (ae bE [v 0,v 6]),asg (.one 8) (ae bE [v 0,b2 (v 6) (c (.int 1)) (aZ true .Add)]),gd (aN (aG) (v 5) [ae fW [v 1,v 7,v 8,b2 (sl true (v 3) none (some (c (.int 3)))) (sl true (v 4) none (some (c (.int 1)))) (aZ true .Add),v 4]])]),ret (tup [v 1,v 3,v 4,v 5])])
def dK:Fn:=run 2 2 (ab [ret (tup [vi 0 0,ae iz [comp true (src (vi 0 1)) [none,none,some 1] (.one 1) yes (aN (bS) (v 2) [v 1,v 1])]])])
def eQ:Fn:=run 2 4 (ab [asg (.one 2) (ae bU [vi 0 1,v 1]),asg (.one 3) (ae bU [vi 0 2,v 1]),iff (tv (b2 (vi 0 0) (c (.str (S "same"))) (cmp .Eq))) (ab [ret (b2 (v 2) (v 3) (cmp .Eq))]) (ab []),ret (lA [b2 (vi 2 0) (c (.str (S "N"))) (cmp .NotEq),b2 (vi 3 0) (c (.str (S "N"))) (cmp .NotEq),b2 (v 2) (v 3) (cmp .NotEq)])])
def cV:Fn:=run 4 9 (ab [asg (.one 4) (comp true (src (v 0)) [none,none] (.one 1) (tv (vi 1 2)) (vi 1 0)),asg (.one 6) (comp true (src (b2 (vi 2 0) (vi 2 1) (aZ true .Add))) [none,none,some 3] (.one 1) yes (ae dK [v 1,v 2])),bG (src (v 6)) (.one 5) (ab [iff (jf [tv (b2 (vi 5 0) (v 4) (cmp .In)),tv (b2 (v 5) (vi 1 1) (cmp .NotIn))]) (ab [ret (c (.bl false))]) (ab []),iff (jf [tv (b2 (vi 5 0) (v 4) (cmp .NotIn)),tv (b2 (aN (iY) (vi 1 0) [v 5]) (aN (iY) (v 6) [v 5]) (cmp .Lt))]) (ab [ret (c (.bl false))]) (ab [])]),bG (src (vi 2 2)) (.one 7) (ab [iff (fF (tv (ae eQ [v 7,v 3]))) (ab [ret (c (.bl false))]) (ab [])]),iff (xA [tv (vi 1 3),tv (b2 (ae bH [vi 2 0]) (c (.int 0)) (cmp .Gt))]) (ab [ret (pW (vi 1 3))]) (ab []),asg (.one 8) (comp true (src (vi 2 3)) [none,none,some 1,some 3] (.one 1) (tv (b2 (ae dK [v 1,v 3]) (vi 2 1) (cmp .NotIn))) (v 1)),asg (.one 8) (b2 (v 8) (comp true (src (vi 2 4)) [none,none,some 3] (.one 1) (tv (b2 (ae bU [vi 1 0,v 2]) (ae bU [vi 1 1,v 2]) (cmp .NotEq))) (v 1)) (aZ true .Add)),ret (b2 (ae bH [v 8]) (c (.int 0)) (cmp .Gt))])
def bA:Fn:=xy 2 2 (ab [ret (comp false (src (b2 (vi 0 0) (vi 0 1) (aZ true .Add))) [none,none,some 1] (.one 1) yes (ae dK [v 1,v 2]))])
def cu:Fn:=run 3 7 (ab [asg (.one 3) (comp true (src (v 0)) [none,none] (.one 1) (tv (vi 1 2)) (vi 1 0)),asg (.one 4) (lst false []),bG (src (v 1)) (.one 5) (ab [iff (jf [tv (b2 (vi 5 0) (v 3) (cmp .In)),tv (b2 (v 5) (v 4) (cmp .NotIn))]) (ab [gd (aN (aG) (v 4) [v 5])]) (ab [])]),asg (.one 6) (ae (iC true) [comp true (src (v 1)) [none,none,some 3] (.one 1) (tv (b2 (vi 1 0) (v 2) (cmp .NotIn))) (v 1)]),ret (tup [ae iz [v 6],ae iz [ae (iC true) [v 4]],ae iz [ae (iC true) [v 2]],c (.bl false)])])
def fX:Fn:=run 3 6 (ab [iff (xA [tv (b2 (vi 2 0) (c (.str (S "N"))) (cmp .NotEq)),jf [tv (b2 (vi 1 0) (c (.str (S "N"))) (cmp .Eq)),tv (b2 (v 2) (v 1) (cmp .Lt))]]) (ab [asg (.one 3) (v 2),asg (.one 4) (v 1)]) (ab [asg (.one 3) (v 1),asg (.one 4) (v 2)]),bG (src (ae (cF true) [v 0])) (.one 5) (ab [iff (tv (b2 (b2 (v 0) (v 5) ix) (v 4) (cmp .Eq))) (ab [oB (v 0) (v 5) (v 3)]) (ab [])])])
def eR:Fn:=run 5 12 (ab [asg (.one 5) (ae (cF false) [vi 1 0]),bG (src (v 2)) (.one 6) (ab [gd no]),asg (.one 7) (ae ic [vi 1 2]),bG (src (v 4)) (.one 8) (ab [asg (.one 9) (aN (bS) (v 7) [vi 8 0,vi 8 0]),asg (.one 10) (aN (bS) (v 7) [vi 8 1,vi 8 1]),iff (jf [tv (b2 (v 9) (v 10) (cmp .NotEq)),tv (b2 (vi 9 0) (c (.str (S "N"))) (cmp .NotEq)),tv (b2 (vi 10 0) (c (.str (S "N"))) (cmp .NotEq))]) (ab [ret (tup [tup [],tup [],tup [],c (.bl true)])]) (ab []),iff (tv (b2 (v 9) (v 10) (cmp .NotEq))) (ab [gd (ae fX [v 7,v 9,v 10])]) (ab [])]),asg (.one 11) (comp true (src (b2 (b2 (v 5) (ae (cF true) [vi 1 1]) (aZ true .Add)) (v 3) (aZ true .Add))) [none,none,some 7] (.one 1) yes (ae dK [v 1,v 2])),ret (ae cu [v 0,v 11,comp true (src (ae (cF true) [v 7])) [none,none,some 7] (.one 1) yes (tup [v 1,b2 (v 2) (v 1) ix])])])
def cv:Fn:=run 4 4 (ab [iff (tv (vi 1 3)) (ab [ret (v 1)]) (ab []),ret (ae eR [v 0,v 1,lst true [],v 2,v 3])])
def dY:Fn:=run 1 1 (ab [ret (comp true (src (sl true (v 0) (some (c (.int 1))) none)) [none,none] (.one 1) yes (tup [v 1,v 1]))])
def cW:Fn:=run 3 4 (ab [asg (.one 3) (b2 (v 0) (v 1) ix),ret (tup [v 1,ae iz [comp true (src (ae cD [b2 (vi 3 0) (vi 3 1) (aZ true .Add)])) [none,none,some 2] (.one 1) yes (b2 (v 2) (v 1) ix)]])])
def cw:Fn:=run 1 1 (ab [iff (tv (b2 (ae bH [vi 0 1]) (c (.int 0)) (cmp .Eq))) (ab [ret (vi 0 0)]) (ab []),ret (b2 (b2 (b2 (vi 0 0) (c (.str (S "("))) (aZ true .Add)) (aN (lz) (c (.str (S ","))) [ae (cF true) [vi 0 1]]) (aZ true .Add)) (c (.str (S ")"))) (aZ true .Add))])
def aK:Fn:=run 2 2 (ab [iff (tv (b2 (ae bH [v 1]) (c (.int 0)) (cmp .Eq))) (ab [ret (lst true [])]) (ab []),ret (lst true [b2 (b2 (v 0) (c (.str (S " "))) (aZ true .Add)) (aN (lz) (c (.str (S ", "))) [v 1]) (aZ true .Add)])])
def dZ:Fn:=run 2 8 (ab [asg (.one 2) (lst false []),bG (src (v 0)) (.one 3) (ab [asg (.one 4) (c (.str (S "passing "))),iff (tv (vi 3 2)) (ab [asg (.one 4) (c (.str (S "lasting ")))]) (ab []),gd (aN (aG) (v 2) [b2 (b2 (b2 (v 4) (vi 3 0) (aZ true .Add)) (c (.str (S " "))) (aZ true .Add)) (ae t9 [vi 3 1]) (aZ true .Add)])]),bG (Mz (v 1)) (.many [5,6]) (ab [asg (.one 7) (ae aK [c (.str (S "take")),comp true (src (vi 6 0)) [none,none] (.one 1) yes (ae cw [v 1])]),asg (.one 7) (b2 (v 7) (ae aK [c (.str (S "keep")),comp true (src (vi 6 1)) [none,none] (.one 1) yes (ae cw [v 1])]) (aZ true .Add)),asg (.one 7) (b2 (v 7) (ae aK [c (.str (S "look")),comp true (src (vi 6 2)) [none,none] (.one 1) yes (b2 (b2 (b2 (b2 (vi 1 1) (c (.str (S " "))) (aZ true .Add)) (vi 1 0) (aZ true .Add)) (c (.str (S " "))) (aZ true .Add)) (vi 1 2) (aZ true .Add))]) (aZ true .Add)),asg (.one 7) (b2 (v 7) (ae aK [c (.str (S "put")),comp true (src (vi 6 3)) [none,none] (.one 1) yes (ae cw [v 1])]) (aZ true .Add)),asg (.one 7) (b2 (v 7) (ae aK [c (.str (S "tell")),comp true (src (vi 6 4)) [none,none] (.one 1) yes (b2 (b2 (vi 1 0) (c (.str (S " = "))) (aZ true .Add)) (vi 1 1) (aZ true .Add))]) (aZ true .Add)),gd (aN (aG) (v 2) [b2 (b2 (b2 (c (.str (S "rule r"))) (ae t9 [v 5]) (aZ true .Add)) (c (.str (S ": "))) (aZ true .Add)) (aN (lz) (c (.str (S "; "))) [v 7]) (aZ true .Add)])]),ret (aN (lz) (c (.str (S "\n"))) [v 2])])
def bV:Fn:=run 3 4 (ab [asg (.one 3) (ae cD [b2 (vi 0 0) (vi 0 1) (aZ true .Add)]),ret (ae ij [v 3,comp true (src (sl true (v 1) none (some (ae bH [v 3])))) [none,none,some 2] (.one 1) yes (b2 (v 2) (v 1) ix)])])
def bW:Fn:=run 2 4 (ab [asg (.one 2) (ae ic [comp true (src (v 0)) [none,none] (.one 1) yes (tup [vi 1 0,vi 1 1])]),bG (src (v 1)) (.one 3) (ab [iff (tv (b2 (vi 3 0) (v 2) (cmp .NotIn))) (ab [gu]) (ab []),iff (tv (b2 (ae bH [vi 3 1]) (b2 (v 2) (vi 3 0) ix) (cmp .NotEq))) (ab [gu]) (ab [])])])
def bY:Fn:=run 2 3 (ab [bG (src (v 1)) (.one 2) (ab [iff (tv (b2 (vi 2 0) (v 0) (cmp .In))) (ab [gu]) (ab [])])])
def ba:Fn:=run 1 1 (ab [ret (b2 (vi 0 0) (c ky) (cmp .In))])
def nW:Fn:=run 2 3 (ab [bG (src (v 1)) (.one 2) (ab [iff (tv (ae ba [v 2])) (ab [gd (aN (gR) (v 0) [v 2,v 2])]) (ab [])])])
def cY:Fn:=run 2 5 (ab [iff (tv (b2 (ae bH [v 1]) (c (.int 0)) (cmp .Eq))) (ab [ret (ae (cF true) [v 0])]) (ab []),asg (.one 2) (xh false),bG (src (v 1)) (.one 3) (ab [oB (v 2) (v 3) (b2 (aN (bS) (v 2) [v 3,c (.int 0)]) (c (.int 1)) (aZ true .Add))]),asg (.one 4) (lst false []),bG (src (v 0)) (.one 3) (ab [iff (tv (b2 (aN (bS) (v 2) [v 3,c (.int 0)]) (c (.int 0)) (cmp .Gt))) (ab [ym .Sub (v 2) (v 3) (c (.int 1))]) (ab [gd (aN (aG) (v 4) [v 3])])]),bG (src (v 1)) (.one 3) (ab [iff (tv (b2 (b2 (v 2) (v 3) ix) (c (.int 0)) (cmp .Gt))) (ab [gu]) (ab [])]),ret (v 4)])
def kz:Fn:=run 2 2 (ab [iff (fF (tv (ae ba [v 0]))) (ab [ret (v 0)]) (ab []),iff (fF (tv (ae ba [v 1]))) (ab [ret (v 1)]) (ab []),ret (ae yn [v 0,v 1])])
def fY:Fn:=run 3 7 (ab [asg (.one 3) (aN (bS) (v 0) [v 1,v 1]),asg (.one 4) (aN (bS) (v 0) [v 2,v 2]),iff (tv (b2 (v 3) (v 4) (cmp .Eq))) (ab [ret (c (.bl true))]) (ab []),iff (jf [fF (tv (ae ba [v 3])),fF (tv (ae ba [v 4]))]) (ab [ret (c (.bl false))]) (ab []),asg (.one 5) (ae kz [v 3,v 4]),bG (src (ae (cF true) [v 0])) (.one 6) (ab [iff (tv (b2 (b2 (v 0) (v 6) ix) (tup [v 3,v 4]) (cmp .In))) (ab [oB (v 0) (v 6) (v 5)]) (ab [])]),ret (c (.bl true))])
def bB:Fn:=run 2 2 (ab [ret (tup [vi 1 0,ae iz [comp true (src (vi 1 1)) [none,none,some 0] (.one 1) yes (aN (bS) (v 2) [v 1,v 1])]])])
def mQ:Fn:=run 5 13 (ab [gd (ae bW [v 0,v 2]),gd (ae bW [v 0,v 3]),asg (.one 5) (comp true (src (v 0)) [none,none] (.one 1) (tv (vi 1 2)) (vi 1 0)),gd (ae bY [v 5,v 2]),iff (tv (vi 1 3)) (ab [ret (c aP)]) (ab []),asg (.one 6) (ae ic [vi 1 2]),asg (.one 8) (ae cY [vi 1 0,comp true (src (v 2)) [none,none,some 6] (.one 1) yes (ae bB [v 2,v 1])]),bG (src (v 3)) (.one 7) (ab [gd (ae nW [v 6,vi 7 1])]),bG (src (v 4)) (.one 9) (ab [gd (ae nW [v 6,v 9]),iff (fF (tv (ae fY [v 6,vi 9 0,vi 9 1]))) (ab [ret (c aP)]) (ab [])]),asg (.one 10) (ae (cF true) [vi 1 1]),iff (tv (b2 (ae bH [v 4]) (c (.int 0)) (cmp .Gt))) (ab [asg (.one 8) (comp true (src (v 8)) [none,none,some 6] (.one 1) yes (ae bB [v 2,v 1])),asg (.one 10) (comp true (src (v 10)) [none,none,some 6] (.one 1) yes (ae bB [v 2,v 1]))]) (ab []),asg (.one 11) (comp true (src (v 3)) [none,none,some 6] (.one 1) yes (ae bB [v 2,v 1])),asg (.one 12) (b2 (v 8) (comp true (src (v 11)) [none,none,some 5] (.one 1) (tv (b2 (vi 1 0) (v 2) (cmp .NotIn))) (v 1)) (aZ true .Add)),asg (.one 10) (b2 (v 10) (comp true (src (v 11)) [none,none,some 5] (.one 1) (tv (b2 (vi 1 0) (v 2) (cmp .In))) (v 1)) (aZ true .Add)),ret (tup [ae iz [ae (iC true) [v 12]],ae iz [ae (nz true) [v 10]],ae iz [ae (ly true) [v 6]],c (.bl false)])])
def cx:Fn:=run 2 2 (ab [ret (tup [aN (bS) (v 0) [vi 1 0,vi 1 0],aN (bS) (v 0) [vi 1 1,vi 1 1]])])
def kC:Fn:=run 3 7 (ab [asg (.one 3) (b2 (b1 (v 0) (fld "rules")) (vi 2 0) ix),asg (.one 4) (ae ij [b1 (v 3) (fld "names"),vi 2 1]),asg (.one 5) (comp true (src (b1 (v 3) (fld "taken"))) [none,none,some 4] (.one 1) yes (ae bB [v 2,v 1])),asg (.one 6) (comp true (src (b1 (v 3) (fld "given"))) [none,none,some 4] (.one 1) yes (ae bB [v 2,v 1])),ret (ae mQ [b1 (v 0) (fld "kinds"),v 1,v 5,v 6,comp true (src (b1 (v 3) (fld "told"))) [none,none,some 4] (.one 1) yes (ae cx [v 2,v 1])])])
def i0:Fn:=run 3 4 (ab [iff (tv (ae xi [comp true (src (b1 (v 0) (fld "given"))) [none,none,some 2,some 1] (.one 1) yes (b2 (ae bB [v 3,v 1]) (v 2) (cmp .NotIn))])) (ab [ret (c (.bl true))]) (ab []),asg (.one 3) (comp true (src (b1 (v 0) (fld "told"))) [none,none,some 1] (.one 1) yes (ae cx [v 2,v 1])),ret (ae xi [comp true (src (v 3)) [none,none] (.one 1) yes (b2 (vi 1 0) (vi 1 1) (cmp .NotEq))])])
def eS:Fn:=run 2 2 (ab [iff (xA [tv (b2 (vi 1 0) (c (.int 0)) (cmp .Lt)),tv (b2 (vi 1 0) (ae bH [b1 (v 0) (fld "rules")]) (cmp .GtE))]) (ab [gu]) (ab []),iff (tv (b2 (ae bH [vi 1 1]) (ae bH [b1 (b2 (b1 (v 0) (fld "rules")) (vi 1 0) ix) (fld "names")]) (cmp .NotEq))) (ab [gu]) (ab [])])
def dO:Fn:=run 4 7 (ab [asg (.one 4) (comp true (src (v 0)) [none,none] (.one 1) (tv (vi 1 2)) (vi 1 0)),asg (.one 5) (comp true (src (b2 (b1 (v 1) (fld "taken")) (b1 (v 1) (fld "kept")) (aZ true .Add))) [none,none,some 2] (.one 1) yes (ae bB [v 2,v 1])),bG (src (v 5)) (.one 6) (ab [iff (tv (b2 (vi 6 0) (v 4) (cmp .In))) (ab [iff (tv (b2 (v 6) (vi 3 1) (cmp .NotIn))) (ab [ret (c (.bl false))]) (ab [])]) (ab [iff (tv (b2 (aN (iY) (vi 3 0) [v 6]) (aN (iY) (v 5) [v 6]) (cmp .Lt))) (ab [ret (c (.bl false))]) (ab [])])]),ret (c (.bl true))])
def cE:Fn:=run 3 3 (ab [ret (b2 (v 1) (v 2) (cmp .Eq))])
def bK:Fn:=run 3 3 (ab [ret (lA [pW (ae ba [v 1]),pW (ae ba [v 2]),b2 (v 1) (v 2) (cmp .NotEq)])])
def eT:Fn:=run 2 2 (ab [ret (ae rH [comp true (src (b1 (v 0) (fld "looks"))) [none,none,some 1] (.one 1) yes (pX "holds" (fun y=>([("Unlike",bK),("Same",cE)]:List (Str × Fn)).lookup y) (v 1) [aN (bS) (v 2) [b1 (v 1) (fld "left"),b1 (v 1) (fld "left")],aN (bS) (v 2) [b1 (v 1) (fld "right"),b1 (v 1) (fld "right")]])])])
def bP:Fn:=run 1 1 (ab [ret (b2 (ae bH [b1 (v 0) (fld "taken")]) (c (.int 0)) (cmp .Eq))])
def eF:Fn:=run 3 5 (ab [gd (ae eS [v 0,v 2]),iff (tv (vi 1 3)) (ab [ret (c (.bl false))]) (ab []),asg (.one 3) (b2 (b1 (v 0) (fld "rules")) (vi 2 0) ix),asg (.one 4) (ae ij [b1 (v 3) (fld "names"),vi 2 1]),iff (xA [fF (tv (ae eT [v 3,v 4])),fF (tv (ae dO [b1 (v 0) (fld "kinds"),v 3,v 4,v 1]))]) (ab [ret (c (.bl false))]) (ab []),ret (BX [pW (pX "calls" (fun y=>([("Rule",bP)]:List (Str × Fn)).lookup y) (v 3) []),ae i0 [v 3,v 4,vi 1 1]])])
def eU:Fn:=run 3 3 (ab [iff (fF (tv (ae eF [v 0,v 1,v 2]))) (ab [gu]) (ab []),ret (ae kC [v 0,v 1,v 2])])
def eV:Fn:=run 1 4 (ab [asg (.one 1) (xh false),bG (src (v 0)) (.one 2) (ab [bG (src (vi 2 1)) (.one 3) (ab [iff (tv (ae ba [v 3])) (ab [oB (v 1) (v 3) (c (.bl true))]) (ab [])])]),ret (ae (cF true) [v 1])])
def iM:Fn:=run 3 3 (ab [jt (v 0) "title" (v 1),jt (v 0) "taken" (aN (bS) (v 2) [c (.str (S "take")),lst true []]),jt (v 0) "kept" (aN (bS) (v 2) [c (.str (S "keep")),lst true []]),jt (v 0) "looks" (aN (bS) (v 2) [c (.str (S "look")),lst true []]),jt (v 0) "given" (aN (bS) (v 2) [c (.str (S "put")),lst true []]),jt (v 0) "told" (aN (bS) (v 2) [c (.str (S "tell")),lst true []]),jt (v 0) "names" (ae eV [b2 (b1 (v 0) (fld "taken")) (b1 (v 0) (fld "kept")) (aZ true .Add)])])
def va:Fn:=make "Rule" iM
def cy:Fn:=run 1 1 (ab [ret (BX [b2 (v 0) (c ku) (cmp .In),b2 (v 0) (c ky) (cmp .In),b2 (v 0) (c lK) (cmp .In)])])
def hV:Fn:=run 2 3 (ab [asg (.one 2) (v 1),rA (jf [tv (b2 (v 2) (ae bH [v 0]) (cmp .Lt)),tv (ae cy [b2 (v 0) (v 2) ix])]) (ab [aug .Add 2 (c (.int 1))]) lim,ret (v 2)])
def kE:Fn:=run 2 6 (ab [asg (.one 2) (lst false []),asg (.one 3) (c (.int 0)),rA (tv (b2 (v 3) (ae bH [v 0]) (cmp .Lt))) (ab [asg (.one 4) (ae hV [v 0,v 3]),iff (tv (b2 (v 4) (v 3) (cmp .Gt))) (ab [gd (aN (aG) (v 2) [sl true (v 0) (some (v 3)) (some (v 4))]),asg (.one 3) (v 4),cnt]) (ab []),asg (.one 5) (b2 (v 0) (v 3) ix),iff (tv (b2 (v 5) (v 1) (cmp .In))) (ab [gd (aN (aG) (v 2) [v 5])]) (ab [iff (tv (b2 (v 5) (c (.str (S " "))) (cmp .NotEq))) (ab [gu]) (ab [])]),aug .Add 3 (c (.int 1))]) lim,ret (v 2)])
def dP:Fn:=run 1 1 (ab [ret (ae kE [v 0,c g9])])
def dM:Fn:=run 1 1 (ab [ret (lA [xg .LtE .LtE (c (.int 1)) (ae bH [v 0]) (c lL),ae rH [comp true (src (v 0)) [none,none] (.one 1) yes (ae cy [v 1])]])])
def bD:Fn:=run 1 1 (ab [ret (lA [ae dM [v 0],b2 (vi 0 0) (c ku) (cmp .In)])])
def fZ:Fn:=run 1 1 (ab [iff (xA [tv (b2 (ae bH [v 0]) (c (.int 3)) (cmp .NotEq)),tv (b2 (vi 0 0) (c hO) (cmp .NotIn))]) (ab [gu]) (ab []),iff (fF (tv (ae bD [vi 0 1]))) (ab [gu]) (ab []),iff (tv (b2 (vi 0 2) (c nV) (cmp .NotIn))) (ab [gu]) (ab []),ret (tup [vi 0 1,ae xj [vi 0 2],b2 (vi 0 0) (c (.str (S "lasting"))) (cmp .Eq)])])
def fE:Fn:=run 2 4 (ab [asg (.one 2) (lst false [lst false []]),bG (src (v 0)) (.one 3) (ab [iff (tv (b2 (v 3) (v 1) (cmp .Eq))) (ab [gd (aN (aG) (v 2) [lst false []])]) (ab [gd (aN (aG) (b2 (v 2) (b1 (c (.int 1)) neg) ix) [v 3])])]),ret (v 2)])
def aH:Fn:=run 2 2 (ab [iff (tv (b2 (v 1) (ae bH [v 0]) (cmp .Lt))) (ab [ret (b2 (v 0) (v 1) ix)]) (ab []),ret (c (.str (S "")))])
def cZ:Fn:=run 3 3 (ab [jt (v 0) "left" (v 1),jt (v 0) "right" (v 2)])
def AL:Fn:=make "Same" cZ
def tc:Fn:=make "Unlike" cZ
def bF:Fn:=run 1 1 (ab [iff (xA [tv (b2 (ae bH [v 0]) (c (.int 3)) (cmp .NotEq)),fF (tv (ae dM [vi 0 0])),fF (tv (ae dM [vi 0 2]))]) (ab [gu]) (ab [])])
def f7:Fn:=run 1 1 (ab [gd (ae bF [v 0]),iff (tv (b2 (vi 0 1) (c (.str (S "same"))) (cmp .Eq))) (ab [ret (ae AL [vi 0 0,vi 0 2])]) (ab []),iff (tv (b2 (vi 0 1) (c (.str (S "unlike"))) (cmp .Eq))) (ab [ret (ae tc [vi 0 0,vi 0 2])]) (ab []),gu])
def dy:Fn:=run 1 1 (ab [ret (comp true (src (ae fE [v 0,c (.str (S ","))])) [none,none] (.one 1) yes (ae f7 [v 1]))])
def f9:Fn:=run 1 1 (ab [gd (ae bF [v 0]),iff (tv (b2 (vi 0 1) (c (.str (S "="))) (cmp .NotEq))) (ab [gu]) (ab []),ret (tup [vi 0 0,vi 0 2])])
def dz:Fn:=run 1 1 (ab [ret (comp true (src (ae fE [v 0,c (.str (S ","))])) [none,none] (.one 1) yes (ae f9 [v 1]))])
def dA:Fn:=run 2 5 (ab [asg (.one 2) (lst false []),iff (tv (b2 (ae aH [v 0,v 1]) (c (.str (S ")"))) (cmp .Eq))) (ab [ret (tup [tup [],b2 (v 1) (c (.int 1)) (aZ true .Add)])]) (ab []),rA (tv (c (.bl true))) (ab [asg (.one 3) (ae aH [v 0,v 1]),iff (fF (tv (ae dM [v 3]))) (ab [gu]) (ab []),gd (aN (aG) (v 2) [v 3]),asg (.one 4) (ae aH [v 0,b2 (v 1) (c (.int 1)) (aZ true .Add)]),aug .Add 1 (c (.int 2)),iff (tv (b2 (v 4) (c (.str (S ")"))) (cmp .Eq))) (ab [ret (tup [ae iz [v 2],v 1])]) (ab []),iff (tv (b2 (v 4) (c (.str (S ","))) (cmp .NotEq))) (ab [gu]) (ab [])]) lim])
def i9:Fn:=run 2 4 (ab [asg (.one 2) (ae aH [v 0,v 1]),iff (fF (tv (ae bD [v 2]))) (ab [gu]) (ab []),iff (tv (b2 (ae aH [v 0,b2 (v 1) (c (.int 1)) (aZ true .Add)]) (c (.str (S "("))) (cmp .NotEq))) (ab [ret (tup [tup [v 2,tup []],b2 (v 1) (c (.int 1)) (aZ true .Add)])]) (ab []),asg (.one 3) (ae dA [v 0,b2 (v 1) (c (.int 2)) (aZ true .Add)]),ret (tup [tup [v 2,vi 3 0],vi 3 1])])
def dB:Fn:=run 1 4 (ab [asg (.one 1) (lst false []),asg (.one 2) (c (.int 0)),rA (tv (c (.bl true))) (ab [asg (.one 3) (ae i9 [v 0,v 2]),gd (aN (aG) (v 1) [vi 3 0]),asg (.one 2) (vi 3 1),iff (tv (b2 (v 2) (ae bH [v 0]) (cmp .Eq))) (ab [ret (v 1)]) (ab []),iff (tv (b2 (b2 (v 0) (v 2) ix) (c (.str (S ","))) (cmp .NotEq))) (ab [gu]) (ab []),aug .Add 2 (c (.int 1))]) lim])
def cz:Fn:=run 2 2 (ab [iff (tv (b2 (v 0) (c (.str (S "look"))) (cmp .Eq))) (ab [ret (ae dy [v 1])]) (ab []),iff (tv (b2 (v 0) (c (.str (S "tell"))) (cmp .Eq))) (ab [ret (ae dz [v 1])]) (ab []),ret (ae dB [v 1])])
def gc:Fn:=run 1 6 (ab [asg (.one 1) (ae aH [v 0,c (.int 1)]),iff (xA [tv (b2 (ae aH [v 0,c (.int 0)]) (c cU) (cmp .NotEq)),fF (tv (ae bD [v 1])),tv (b2 (ae aH [v 0,c (.int 2)]) (c (.str (S ":"))) (cmp .NotEq))]) (ab [gu]) (ab []),asg (.one 2) (xh false),asg (.one 3) (c (.int 0)),bG (src (ae fE [sl true (v 0) (some (c (.int 3))) none,c (.str (S ";"))])) (.one 4) (ab [asg (.one 5) (ae aH [v 4,c (.int 0)]),iff (tv (b2 (v 5) (sl true (c bO) (some (v 3)) none) (cmp .NotIn))) (ab [gu]) (ab []),asg (.one 3) (b2 (aN (qt) (c bO) [v 5]) (c (.int 1)) (aZ true .Add)),oB (v 2) (v 5) (ae cz [v 5,sl true (v 4) (some (c (.int 1))) none])]),iff (jf [tv (b2 (c (.str (S "take"))) (v 2) (cmp .NotIn)),tv (b2 (c (.str (S "keep"))) (v 2) (cmp .NotIn))]) (ab [gu]) (ab []),ret (tup [v 1,v 2])])
def c7:Fn:=run 3 6 (ab [asg (.one 3) (ae dP [v 2]),iff (tv (b2 (vi 3 0) (c cU) (cmp .Eq))) (ab [asg (.one 4) (ae gc [v 3]),iff (tv (b2 (vi 4 0) (comp true (src (v 1)) [none,none] (.one 1) yes (b1 (v 1) (fld "title"))) (cmp .In))) (ab [gu]) (ab []),gd (aN (aG) (v 1) [ae va [vi 4 0,vi 4 1]])]) (ab [asg (.one 5) (ae fZ [v 3]),iff (tv (b2 (vi 5 0) (comp true (src (v 0)) [none,none] (.one 1) yes (vi 1 0)) (cmp .In))) (ab [gu]) (ab []),gd (aN (aG) (v 0) [v 5])])])
def ja:Fn:=run 1 2 (ab [asg (.one 1) (aN (mM) (v 0) [c (.str (S " "))]),ret (lA [b2 (v 1) (c (.str (S ""))) (cmp .NotEq),b2 (vi 1 0) (c (.str (S "#"))) (cmp .NotEq)])])
def eW:Fn:=run 1 1 (ab [ret (comp true (src (aN (mL true) (v 0) [c (.str (S "\n"))])) [none,none] (.one 1) (tv (ae ja [v 1])) (v 1))])
def iN:Fn:=run 3 3 (ab [jt (v 0) "kinds" (v 1),jt (v 0) "rules" (v 2)])
def vb:Fn:=make "Book" iN
def dC:Fn:=run 2 3 (ab [iff (fF (tv (pX "calls" (fun y=>([("Rule",bP)]:List (Str × Fn)).lookup y) (v 1) []))) (ab [ret (c .b7)]) (ab []),bG (src (b1 (v 1) (fld "given"))) (.one 2) (ab [iff (tv (b2 (vi 2 0) (v 0) (cmp .NotIn))) (ab [gu]) (ab [])])])
def eX:Fn:=run 1 5 (ab [asg (.one 1) (lst false []),bG (src (b1 (v 0) (fld "looks"))) (.one 2) (ab [gd (aN (iD) (v 1) [lst true [b1 (v 2) (fld "left"),b1 (v 2) (fld "right")]])]),bG (src (b1 (v 0) (fld "given"))) (.one 3) (ab [gd (aN (iD) (v 1) [vi 3 1])]),bG (src (b1 (v 0) (fld "told"))) (.one 4) (ab [gd (aN (iD) (v 1) [v 4])]),ret (v 1)])
def dQ:Fn:=run 1 2 (ab [bG (src (ae eX [v 0])) (.one 1) (ab [iff (jf [tv (ae ba [v 1]),tv (b2 (v 1) (b1 (v 0) (fld "names")) (cmp .NotIn))]) (ab [gu]) (ab [])])])
def eY:Fn:=run 2 4 (ab [asg (.one 2) (comp true (src (v 0)) [none,none] (.one 1) (tv (vi 1 2)) (vi 1 0)),bG (src (v 1)) (.one 3) (ab [gd (ae bW [v 0,b2 (b2 (b1 (v 3) (fld "taken")) (b1 (v 3) (fld "kept")) (aZ true .Add)) (b1 (v 3) (fld "given")) (aZ true .Add)]),gd (ae bY [v 2,b1 (v 3) (fld "taken")]),gd (ae dC [v 2,v 3]),gd (ae dQ [v 3])]),ret (ae vb [v 0,v 1])])
def d9:Fn:=run 1 4 (ab [asg (.one 1) (lst false []),asg (.one 2) (lst false []),bG (src (ae eW [v 0])) (.one 3) (ab [gd (ae c7 [v 1,v 2,v 3])]),ret (ae eY [v 1,v 2])])
def td:Fn:=run 1 20 (ab [asg (.many [1,2,3,4]) (ae dX [v 0]),asg (.one 5) (ae ax [ae bE [v 0,c (.int 6)],lst true [c (.int 2),c (.int 4),c (.int 4),c (.int 4),c (.int 3),c (.int 4),c (.int 4),c (.int 4),c (.int 4)]]),asg (.one 6) (ae d9 [ae dZ [v 1,v 4]]),asg (.one 7) (b2 (sl true (v 3) none (some (c (.int 1)))) (sl true (v 2) (some (c (.int 1))) none) (aZ true .Add)),asg (.one 8) (b2 (v 4) (vi 5 0) ix),asg (.one 9) (ae bV [v 8,sl true (v 5) (some (c (.int 1))) (some (c (.int 4))),v 7]),asg (.one 10) (ae bA [v 8,v 9]),bG (src (sl true (v 0) (some (c (.int 7))) (some (c (.int 13))))) (.one 11) (ab [gd (aN (aG) (v 10) [ae aE [v 1,b2 (ae ax [v 11,lst true [c (.int 1024)]]) (c (.int 0)) ix,v 7]])]),asg (.one 12) (comp true (src (sl true (v 0) (some (c (.int 13))) (some (c (.int 25))))) [none,none,some 1,some 7] (.one 1) yes (ae aE [v 2,b2 (ae ax [v 1,lst true [c (.int 1024)]]) (c (.int 0)) ix,v 3])),asg (.one 13) (sl true (lst true [tup [b2 (v 7) (vi 5 5) ix,b2 (v 7) (vi 5 6) ix],tup [b2 (v 7) (vi 5 7) ix,b2 (v 7) (vi 5 8) ix]]) none (some (vi 5 4))),iff (tv (b2 (vi 5 4) (c (.int 0)) (cmp .Eq))) (ab [asg (.one 13) (comp true (src (vi 8 2)) [none,none,some 9] (.one 1) yes (tup [ae bU [vi 1 1,v 2],ae bU [vi 1 2,v 2]]))]) (ab []),asg (.one 14) (ae cu [v 1,v 10,ae dY [v 2]]),asg (.one 15) (ae cW [v 4,vi 5 0,v 9]),iff (fF (tv (ae eF [v 6,v 14,v 15]))) (ab [ret (pW (ae cV [v 1,v 14,v 8,v 9]))]) (ab []),asg (.one 16) (ae cv [v 1,v 14,v 12,v 13]),asg (.one 17) (ae cv [v 1,ae eU [v 6,v 14,v 15],v 12,v 13]),asg (.one 18) (ae ic [vi 16 2]),asg (.one 19) (tup [vi 15 0,ae iz [comp true (src (vi 15 1)) [none,none,some 18] (.one 1) yes (aN (bS) (v 2) [v 1,v 1])]]),iff (tv (ae eF [v 6,v 16,v 19])) (ab [ret (b2 (ae eU [v 6,v 16,v 19]) (v 17) (cmp .Eq))]) (ab []),ret (lA [b2 (v 16) (v 17) (cmp .Eq),BX [vi 16 3,b2 (ae bH [vi 8 0]) (c (.int 0)) (cmp .Eq)]])])
theorem vc (ch:Nat) (L:aa):cy [.str [ch]] L=.ok (.bl (fL ch)) L:=by
 unfold cy ku ky lK fL;show _=R.ok (T.bl (decide (ch∈S "abcdefghijklmnopqrstuvwxyz") || (decide (ch∈S "ABCDEFGHIJKLMNOPQRSTUVWXYZ") || decide (ch∈S "0123456789")))) L
 simp_arith;cases decide (ch∈S "abcdefghijklmnopqrstuvwxyz") <;> cases decide (ch∈S "ABCDEFGHIJKLMNOPQRSTUVWXYZ") <;> simp [Az]
theorem nY (s:Cs) (hs:s.length<=100000) (L:aa):dM [.str s] L=.ok (.bl (av s)) L:=by
 have hb:rH [.lst (s.map fun ch=>.bl (fL ch))] L=.ok (.bl (s.all fL)) L:=by
  have:=mapM_map (f:=IJ) (g:=fun ch=>T.bl (fL ch)) (h:=fL) (fun _=>rfl) s;simp [rH,Fe,vw,this,lift,aaw,Wz]
 unfold dM lL av;by_cases h1:1<=s.length
 ·by_cases h2:s.length<=12
  ·simp_arith [show(1:Int)<=s.length by omega,show(s.length:Int)<=12 by omega,h1,h2,decide_true]
   rw [aS rfl s (fun ch=>.str [ch]) (fun ch=>.bl (fL ch)) (by exact rfl) (by exact ai) (by exact Vt hs (by decide)) (by exact fun b _=>by simp_arith [vc])];simp_arith [hb]
  ·simp_arith [show(1:Int)<=s.length by omega,show ¬ (s.length:Int)<=12 by omega,h1,h2,decide_true,decide_false]
 ·simp_arith [show ¬ (1:Int)<=s.length by omega,h1,decide_false]
theorem jo {s:Cs} (h:1<=s.length) (L:aa):ix (.str s) (.int 0) L=.ok (.str [s.headD 0]) L:=by
 cases s with
 | nil=>cases h
 | cons a r=>simp [ix,vw,place,lift]
theorem mR (s:Cs) (hs:s.length<=100000) (L:aa):bD [.str s] L=.ok (.bl (bZ s)) L:=by
 unfold bD ku bZ;simp_arith [nY s hs];cases h:av s with
 | false=>simp_arith
 | true=>simp_arith [jo (aQ h).1];rfl
theorem eZ (s:Cs) (hs:1<=s.length) (L:aa):ba [.str s] L=.ok (.bl (great s)) L:=by
 unfold ba ky great;simp_arith [jo hs];rfl
theorem fc (ps:List Cs) (n:Nat) (L:aa):aH [.lst (ps.map .str),.int n] L=.ok (.str (ps.getD n [])) L:=by
 unfold aH;simp_arith;by_cases h:n<ps.length
 ·have e:(ps.map T.str)[n]?=some (.str (ps.getD n [])):=by simp [Gd9,h]
  simp only [show(n:Int)<ps.length by omega,decide_true];simp_arith [cK e]
 ·simp only [show ¬ (n:Int)<ps.length by omega,decide_false];simp_arith;simp [Gd9,h]
theorem ia (c:Nat) (r:Cs):dN (c::r)=if fL c=true then dN r+1 else 0:=by
 unfold dN;rw [aaP];split <;> simp
theorem LF (p:Cs) (s:Nat) (L:aa) (hs:s<=p.length) (hl:p.length<=100000):hV [.str p,.int s] L=.ok (.int ((s+dN (p.drop s):Nat):Int)) L:=by
 unfold hV;simp_arith;generalize ho:rA _ _ _ _ _=o;have h:=wQ ho (fun n φ L'=>L'=L/\∃e:Nat,n=p.length - e/\e<=p.length/\e+dN (p.drop e)=s+dN (p.drop s)/\φ=[some (.str p),some (.int s),some (.int e)])
  (fun o=>o=.nx [some (.str p),some (.int s),some (.int ((s+dN (p.drop s):Nat):Int))] L) (n:=p.length - s) (by unfold lim;omega) ⟨rfl,s,rfl,hs,rfl,rfl⟩ fun _ _ eJ eP n φ L' h=>by
   obtain⟨rfl,e,rfl,he,e1,rfl⟩:=h;by_cases bQ:e<p.length
   ·have hd:p.drop e=p[e]::p.drop (e+1):=WE bQ
    rw [hd,ia] at e1;have hx:ix (.str p) (.int e) L'=.ok (.str [p[e]]) L':=by rw [u3 (by omega) (by omega)];simp [bQ]
    cases hg:fL p[e] with
    | true =>
     rw [hg,if_pos rfl] at e1;refine .inr ⟨?_,?_⟩
     ·simp_arith [eJ,eP,hx,vc,show(e:Int)<p.length by omega,decide_true,hg]
     ·simp_arith [eJ,eP];exact⟨p.length - (e+1),by omega,trivial,e+1,rfl,by omega,by omega,by simp⟩
    | false =>
     rw [hg,if_neg (by simp)] at e1;refine .inl ⟨?_,?_⟩
     ·simp_arith [eJ,eP,hx,vc,show(e:Int)<p.length by omega,decide_true,hg]
     ·rw [eP,<- e1];rfl
   ·refine .inl ⟨?_,?_⟩
    ·simp_arith [eJ,eP,show ¬ (e:Int)<p.length by omega,decide_false]
    ·rw [XQ (by omega)] at e1;rw [eP,<- e1];rfl
 subst h;simp_arith
theorem bu {α β:Type} (f:α->β) (l:List α) (x:α):l.map f++[f x]=(l++[x]).map f:=by simp
theorem DF {p:Cs} {a n:Nat} (h:a+n<=p.length) (L:aa):jd true (.str p) (some (a:Int)) (some ((a+n:Nat):Int)) L=.ok (.str ((p.drop a).take n)) L:=by
 unfold jd vw;simp only [];rw [aV ⟨by omega,by omega,by omega⟩,show((a:Int)).toNat=a by omega,show(((a+n:Nat):Int) - (a:Int)).toNat=n by omega]
theorem AM {p:Cs} {ts:List Cs} (L:aa) (hp:p.length<=20000) (hk:Tk HO p ts):kE [.str p,.str (S "(),:;=")] L=.ok (.lst (ts.map .str)) L:=by
 have NI:=hk.len;unfold kE;simp_arith;generalize ho:rA _ _ _ _ _=o;have h:=wQ ho (fun n φ L'=>∃(e:Nat) (done rest:List Cs) (o4 o5:Option T),n=p.length - e/\e<=p.length/\Tk HO (p.drop e) rest/\done++rest=ts/\φ=[some (.str p),some (.str (S "(),:;=")),some (.ref L.length),some (.int e),o4,o5]/\L'=.lst (done.map .str)::L)
  (fun o=>∃o3 o4 o5,o=.nx [some (.str p),some (.str (S "(),:;=")),some (.ref L.length),o3,o4,o5] (.lst (ts.map .str)::L)) (n:=p.length) (by unfold lim;omega) ⟨0,[],ts,none,none,rfl,VK _,hk,rfl,rfl,rfl⟩ fun _ _ eJ eP n φ L' h=>by
   obtain⟨e,done,rest,o4,o5,rfl,he,ht,rfl,rfl,rfl⟩:=h;have hlen:done.length<lim:=by
    rw [U3] at NI;unfold lim;omega
   have ee:=LF p e (.lst (done.map .str)::L) he (by omega);have sg:∀{c r},p.drop e=c::r->e<p.length/\p.drop (e+1)=r/\ix (.str p) (.int e) (.lst (done.map .str)::L)=.ok (.str [c]) (.lst (done.map .str)::L):=fun {c r} hd=>by
    have bQ:e<p.length:=by have:=congrArg Xr hd;simp at this;omega
    have h2:=(WE bQ).symm.trans hd;refine⟨bQ,(W8 h2).2,?_⟩;rw [u3 (by omega) (by omega)];simp [bQ,(W8 h2).1]
   generalize hd:p.drop e=d at ht ee;cases ht with
   | nil =>
    have:=congrArg Xr hd;rw [VM] at this;refine .inl ⟨by simp_arith [eJ,eP,show ¬ (e:Int)<p.length by simp at this;omega,decide_false],?_⟩;rw [eP,VA];exact⟨_,_,_,rfl⟩
   | sp t =>
    obtain⟨bQ,hr,hx⟩:=sg hd;rw [ia,Bk.sO] at ee;refine .inr ⟨by simp_arith [eJ,eP,show(e:Int)<p.length by omega,decide_true],?_⟩;simp_arith [eJ,eP,ee,Vi,if_false,Zq,Z4,decide_false,hx,show(32∈S "(),:;=")=False from eq_false (by decide)];exact⟨p.length - (e+1),by omega,e+1,done,rest,_,_,rfl,bQ,hr ▸ t,rfl,rfl,rfl⟩
   | @mk c _ q hc t =>
    obtain⟨bQ,hr,hx⟩:=sg hd;rw [ia,show fL c=false from(by decide +kernel:∀c∈HO,fL c=false) c hc] at ee;refine .inr ⟨by simp_arith [eJ,eP,show(e:Int)<p.length by omega,decide_true],?_⟩;simp_arith [eJ,eP,ee,Vi,if_false,Zq,Z4,decide_false,hx,show(c∈S "(),:;=")=True from eq_true hc,decide_true,aV hlen,bu];exact⟨p.length - (e+1),by omega,e+1,done++[[c]],q,_,_,rfl,bQ,hr ▸ t,by simp,rfl,rfl⟩
   | @name nm r q hn hs t =>
    have h1:=aQ hn;have hl:=congrArg Xr hd
    rw [VM,U3] at hl;have en:dN (nm++r)=nm.length:=by
     unfold dN;rw [List.takeWhile_append_of_pos (Bk.EJ hn)];cases r with
     | nil=>simp
     | cons c r=>rw [aaP,hs c rfl];simp
    rw [en] at ee;refine .inr ⟨by simp_arith [eJ,eP,show(e:Int)<p.length by omega,decide_true],?_⟩;simp_arith [eJ,eP,ee,show((e:Nat):Int)<((e+nm.length:Nat):Int) by omega,decide_true,DF (p:=p) (a:=e) (n:=nm.length) (by omega),hd,List.take_left,aV hlen,bu];exact⟨p.length - (e+nm.length),by omega,e+nm.length,done++[nm],q,_,_,rfl,by omega,by rw [<- YT,hd,YS];exact t,by simp,rfl,rfl⟩
 obtain⟨o3,o4,o5,rfl⟩:=h;simp_arith;exact fB (aq fun _ _=>rfl)
theorem gD {ps:List Cs} {q i:Nat} {d:List Cs} (h:ps.drop q=d):ps.getD (q+i) []=d.getD i []:=by
 rw [<- h,Gd9,Gd9,List.getElem?_drop]
theorem wR:∀as:List Cs,as.length<=(between as).length
 | []=>Vm _
 | [_]=>Xe _
 | _::b::t=>aae (Nat.le_succ_of_le (wR (b::t)))
theorem HU (ps as:List Cs) (p:Nat) (r:List Cs) (L:aa) (hl:ps.length<=20000) (h0:as≠[]) (hn:∀a∈as,av a=true) (hd:ps.drop p=between as++r) :
  dA [.lst (ps.map .str),.int p] L=.ok (.tup [.tup (as.map .str),.int ((p+(between as).length:Nat):Int)]) L:=by
 have T3:(ps.getD p [] == [41])=false:=by
  obtain⟨a,t,rfl⟩:=Yd h0;rw [show ps.getD p []=a from(gD (i:=0) hd).trans (by cases t <;> rfl)];exact beq_eq_false_iff_ne.mpr fun e=>absurd (hn a U4) (by rw [e];decide +kernel)
 have ha:as.length<lim:=by
  have z:=congrArg Xr hd;have:=wR as
  rw [VM,U3] at z;unfold lim;omega
 unfold dA;simp_arith [fc,T3];generalize ho:rA _ _ _ _ _=o;have h:=wQ ho (fun m φ L'=>∃(q:Nat) (done as':List Cs) (o3 o4:Option T),m=as'.length/\as'≠[]/\ps.drop q=between as'++r/\done++as'=as/\q+(between as').length=p+(between as).length/\φ=[some (.lst (ps.map .str)),some (.int q),some (.ref L.length),o3,o4]/\L'=.lst (done.map .str)::L)
  (fun o=>o=.rt (.tup [.tup (as.map .str),.int ((p+(between as).length:Nat):Int)]) (.lst (as.map .str)::L)) (n:=as.length) ha ⟨p,[],as,none,none,rfl,h0,hd,rfl,rfl,rfl,rfl⟩ fun _ _ eJ eP m φ L' h=>by
   obtain⟨q,done,as',o3,o4,rfl,h0,hd,e1,e2,rfl,rfl⟩:=h;obtain⟨nm,t,rfl⟩:=Yd h0;have hm:=hn nm (by rw [<- e1];simp)
   have BY:=fc ps q (.lst (done.map .str)::L);have tf:=fc ps (q+1) (.lst ((done++[nm]).map .str)::L)
   rw [show ps.getD q []=nm from(gD (i:=0) hd).trans (by cases t <;> rfl)] at BY;have hb:done.length<lim:=by
    rw [<- e1,U3] at ha;omega
   refine .inr ⟨rfl,?_⟩;cases t with
   | nil =>
    rw [show ps.getD (q+1) []=[41] from gD (i:=1) hd] at tf;simp_arith [eJ,eP,BY,nY nm (Vt (aQ hm).2 (by decide)),hm,aV hb,bu,tf];rw [e1,<- e2];rfl
   | cons b t =>
    rw [show ps.getD (q+1) []=[44] from gD (i:=1) hd] at tf;simp_arith [eJ,eP,BY,nY nm (Vt (aQ hm).2 (by decide)),hm,aV hb,bu,tf];exact⟨(b::t).length,by simp,q+2,done++[nm],b::t,_,_,rfl,Yp _ _,by rw [<- YT,hd];rfl,by simpa using e1,by rw [<- e2];show q+2+_=q+(_+2);omega,rfl,rfl⟩
 subst h;simp_arith;exact fA (by simp [lt,cb,kr])
theorem pK (ps:List Cs) (f:Fc) (p:Nat) (r:List Cs) (L:aa) (hl:ps.length<=20000) (hf:FG f) (hr:r.getD 0 []≠[40]) (hd:ps.drop p=di f++r) :
  i9 [.lst (ps.map .str),.int p] L=.ok (.tup [fT f,.int ((p+(di f).length:Nat):Int)]) L:=by
 have BY:=fc ps p L;have tf:=fc ps (p+1) L
 have hk:=aQ (Bk.bt hf.k);unfold di at hd;unfold i9 di;by_cases h0:f.as=[]
 ·rw [if_pos h0] at hd ⊢
  rw [show ps.getD p []=f.k from gD (i:=0) hd] at BY;rw [show ps.getD (p+1) []=r.getD 0 [] from gD (i:=1) hd] at tf;simp_arith [BY,mR f.k (Vt hk.2 (by decide)),hf.k,tf,beq_eq_false_iff_ne.mpr hr,show fT f=.tup [.str f.k,.tup []] by unfold fT;rw [h0];rfl];exact fin_same (by simp [lt,cb])
 ·rw [if_neg h0] at hd ⊢
  rw [show ps.getD p []=f.k from gD (i:=0) hd] at BY;rw [show ps.getD (p+1) []=[40] from gD (i:=1) hd] at tf;simp_arith [BY,mR f.k (Vt hk.2 (by decide)),hf.k,tf,HU ps f.as (p+2) r L hl h0 hf.as (by rw [<- YT,hd];rfl)];rw [show p+2+(between f.as).length=p+(f.k::[40]::between f.as).length by simp only [Vb];omega];exact fin_same (by simp [fT,lt,cb,kr])
theorem DG {α:Type} {m:Cs} (l:List α) (g:α->List Cs) (hg:∀x,g x≠[]):l.length<=(glue m (l.map g)).length:=by
 induction l with
 | nil=>exact Vm _
 | cons a t ih =>
  have:=Zf.mpr (hg a);cases t with
  | nil=>exact this
  | cons b t =>
   show _<=(g a++m::glue m ((b::t).map g)).length;rw [U3,Vb,Vb (as:=glue _ _)];omega
theorem LG (fs:List Fc) (L:aa) (h0:fs≠[]) (hl:(glue [44] (fs.map di)).length<=20000) (hf:∀f∈fs,FG f):dB [.lst ((glue [44] (fs.map di)).map .str)] L=.ok (.lst (fs.map fT)) L:=by
 generalize CL:glue [44] (fs.map di)=ps at hl;have hn:fs.length<lim:=by
  have:=DG (m:=[44]) fs di fun f=>by unfold di;split <;> exact Yp _ _
  rw [CL] at this;unfold lim;omega
 unfold dB;simp_arith;generalize ho:rA _ _ _ _ _=o;have h:=wQ ho (fun m φ L'=>∃(q:Nat) (done rest:List Fc) (o3:Option T),m=rest.length/\rest≠[]/\ps.drop q=glue [44] (rest.map di)/\done++rest=fs/\φ=[some (.lst (ps.map .str)),some (.ref L.length),some (.int q),o3]/\L'=.lst (done.map fT)::L)
  (fun o=>o=.rt (.ref L.length) (.lst (fs.map fT)::L)) (n:=fs.length) hn ⟨0,[],fs,none,rfl,h0,CL.symm,rfl,rfl,rfl⟩ fun _ _ eJ eP m φ L' h=>by
   obtain⟨q,done,rest,o3,rfl,h0,hd,e1,rfl,rfl⟩:=h;obtain⟨f,t,rfl⟩:=Yd h0;have hF:=hf f (by rw [<- e1];simp)
   have hb:done.length<lim:=by rw [<- e1,U3] at hn;omega
   have hq:=congrArg Xr hd;rw [VM] at hq;have xC:1<=(di f).length:=by unfold di;split <;> simp
   refine .inr ⟨rfl,?_⟩;cases t with
   | nil =>
    have hq:ps.length - q=(di f).length:=hq;simp_arith [eJ,eP,pK ps f q [] _ hl hF (by simp) (by rw [hd,VA];rfl),aV hb,bu,show(((q+(di f).length:Nat):Int) == (ps.length:Int))=true from by simp;omega,e1]
   | cons g t =>
    have hq:ps.length - q=(di f++[44]::glue [44] ((g::t).map di)).length:=hq;have hd:ps.drop q=di f++[44]::glue [44] ((g::t).map di):=hd
    rw [U3,Vb] at hq;have hr:ps.drop (q+(di f).length)=[44]::glue [44] ((g::t).map di):=by rw [<- YT,hd,YS]
    have hg:(ps.map T.str)[q+(di f).length]?=some (.str [44]):=by
     rw [Vs,<- Zq (q+(di f).length),<- List.getElem?_drop,hr];rfl
    simp_arith [eJ,eP,pK ps f q _ _ hl hF (by simp) hd,aV hb,bu,show(((q+(di f).length:Nat):Int) == (ps.length:Int))=false from by simp;omega,cK hg];exact⟨(g::t).length,by simp,q+(di f).length+1,done++[f],g::t,_,rfl,Yp _ _,by rw [<- YT,hr];rfl,by simpa using e1,rfl,rfl⟩
 subst h;simp_arith;exact fB (aq bg)
noncomputable def bx (m:Cs):List Cs->List (List Cs)->List (List Cs)
 | [],rows=>rows
 | p::r,rows=>bx m r (if p=m then rows++[[]] else rows.dropLast++[rows.getLastD []++[p]])
theorem iO {m:Cs}:∀(q rest:List Cs) (done:List (List Cs)) (cur:List Cs),m∉q->bx m (q++rest) (done++[cur])=bx m rest (done++[cur++q])
 | [],rest,done,cur,_=>by rw [VP,VA]
 | p::q,rest,done,cur,h=>by
  have hp:p≠m:=fun e=>h (by rw [e];exact U4)
  have hq:m∉q:=fun z=>h (U5 _ z)
  show bx m (q++rest) (if p=m then _ else (done++[cur]).dropLast++[(done++[cur]).getLastD []++[p]])=_;rw [if_neg hp,aaF,show(done++[cur]).getLastD []=cur by simp,iO q rest done (cur++[p]) hq,Vw,X4]
theorem kH {m:Cs}:∀(qs:List (List Cs)) (done:List (List Cs)),qs≠[]->(∀q∈qs,m∉q)->bx m (glue m qs) (done++[[]])=done++qs
 | [],_,h,_=>absurd rfl h
 | [q],done,_,h=>by
  have e:=iO q [] done [] (h q (by simp));rw [VA] at e;show bx m q _=_
  rw [e];rfl
 | q::q2::r,done,_,h=>by
  have e:=iO q (m::glue m (q2::r)) done [] (h q (by simp));show bx m (q++m::glue m (q2::r)) _=_
  rw [e];show bx m (glue m (q2::r)) (if m=m then (done++[[]++q])++[[]] else _)=_
  rw [if_pos rfl,kH (q2::r) (done++[[]++q]) (by simp) fun x hx=>h x (U5 _ hx),VP,Vw,X4]
noncomputable def bw (r:List Cs):T:=.lst (r.map .str)
theorem HV (n:Nat) (r:List Cs):lt n (bw r)=true:=by simp [bw,lt,kr]
noncomputable def cH (n k:Nat):List T:=.ref n::(V5 k).map fun i=>.ref (n+2+i)
noncomputable def dD (L:aa) (r0:List Cs) (rest:List (List Cs)):aa:=(rest.map bw).reverse++(.lst (cH L.length rest.length)::bw r0::L)
theorem qK {α:Type} {L:List α}:∀(A:List α) {n:Nat},n<L.length->at_ (A++L) n=at_ L n
 | [],n,h=>rfl
 | a::A,n,h=>by rw [WS,at_,if_neg (by simp;omega),qK A h]
theorem wU {α:Type} {L:List α} {d:α}:∀(A:List α) {n:Nat},n<L.length->put (A++L) n d=A++put L n d
 | [],n,h=>rfl
 | a::A,n,h=>by rw [WS,put,if_neg (by simp;omega),wU A h];rfl
section
variable {L:aa} {r0:List Cs} {rest:List (List Cs)}
theorem nZ:(dD L r0 rest).length=L.length+2+rest.length:=by unfold dD;simp;omega
theorem pL {n k:Nat}:(cH n k).length=k+1:=by simp [cH]
theorem mS:at_ (dD L r0 rest) (L.length+1)=some (.lst (cH L.length rest.length)):=by
 unfold dD;rw [qK _ (by simp)];exact u6
theorem vd {n k:Nat}:cH n k++[.ref (n+2+k)]=cH n (k+1):=by simp [cH,List.range_succ]
theorem xU:put (.lst []::dD L r0 rest) (L.length+1) (.lst (cH L.length rest.length++[.ref (dD L r0 rest).length]))=dD L r0 (rest++[[]]):=by
 rw [nZ,vd];show put ((T.lst []::(rest.map bw).reverse)++(.lst (cH L.length rest.length)::bw r0::L)) (L.length+1) _=_
 rw [wU _ (by simp),Lb];simp [dD,bw]
theorem ve {n:Nat}:place (n+1) (-1)=some n:=by
 unfold place;rw [if_neg (by decide),if_pos (by omega)];congr 1;omega
theorem xV (q:Cs):∃n last LH pM,ix (.ref (L.length+1)) (.int (-1)) (dD L r0 rest)=.ok (.ref n) (dD L r0 rest)/\at_ (dD L r0 rest) n=some (bw last)/\put (dD L r0 rest) n (bw (last++[q]))=dD L LH pM /\
  (∀mk qs,q≠mk->bx mk (q::qs) (r0::rest)=bx mk qs (LH::pM))/\(LH::pM).flatten.length=(r0::rest).flatten.length+1/\last.length<=(r0::rest).flatten.length/\pM.length=rest.length:=by
 have EU:∀n,(cH L.length rest.length)[rest.length]?=some (.ref n)->ix (.ref (L.length+1)) (.int (-1)) (dD L r0 rest)=.ok (.ref n) (dD L r0 rest):=fun n h=>by
  simp only [ix,vw,mS,Xi,pL,ve,Xl,h,lift]
 rcases List.eq_nil_or_concat rest with rfl|⟨pre,last,e⟩
 ·refine⟨L.length,r0,r0++[q],[],EU _ rfl,?_,?_,fun mk qs h=>?_,by simp,by simp,rfl⟩
  ·exact sZ
  ·show put (T.lst (cH L.length 0)::bw r0::L) L.length _=_
   rw [La];rfl
  ·show bx mk qs (if q=mk then _ else _)=_
   rw [if_neg h];rfl
 ·rw [List.concat_eq_append] at e
  subst e;have ec:∀z:List Cs,dD L r0 (pre++[z])=bw z::((pre.map bw).reverse++(.lst (cH L.length (pre.length+1))::bw r0::L)):=fun z=>by simp [dD]
  have el:((pre.map bw).reverse++(T.lst (cH L.length (pre.length+1))::bw r0::L)).length=L.length+2+pre.length:=by simp;omega
  refine⟨L.length+2+pre.length,last,r0,pre++[last++[q]],EU _ ?_,?_,?_,fun mk qs h=>?_,by simp;omega,by simp;omega,by simp⟩
  ·simp [cH]
  ·rw [ec,<- el];exact cR
  ·rw [ec,ec,<- el];exact u7
  ·show bx mk qs (if q=mk then _ else _)=_
   rw [if_neg h,show r0::(pre++[last])=(r0::pre)++[last] from rfl,aaF,List.getLastD_concat];rfl
end
theorem th {L L':aa}:∀(ns:List Nat) (rows:List (List Cs)),ns.length=rows.length->(∀i (h:i<ns.length) (h':i<rows.length),L.length<=ns[i]/\at_ L' ns[i]=some (bw rows[i]))->(ns.map T.ref).mapM (cf L.length L' 7)=some (rows.map bw)
 | [],[],_,_=>rfl
 | n::ns,r::rows,hl,h=>by
  obtain⟨h1,h2⟩:=h 0 (by simp) (by simp);have h1:L.length<=n:=h1
  have h2:at_ L' n=some (bw r):=h2
  have e:cf L.length L' 7 (.ref n)=some (bw r):=by
   unfold cf;rw [if_neg (by rw [lt];simp;omega)];simp only [h2];unfold cf;rw [if_pos (HV _ _)]
  rw [Vg,W9,e,th ns rows (by simpa using hl) fun i a b=>h (i+1) (by simpa using a) (by simpa using b)];rfl
theorem AO {L:aa} {r0:List Cs} {rest:List (List Cs)}:fin L (.ref (L.length+1)) (dD L r0 rest)=.ok (.lst ((r0::rest).map bw)) L:=by
 have hd:(dD L r0 rest).drop ((dD L r0 rest).length - L.length)=L:=by
  rw [nZ,show dD L r0 rest=((rest.map bw).reverse++[.lst (cH L.length rest.length),bw r0])++L by simp [dD],List.drop_left' (by simp;omega)]
 unfold fin;rw [hd,if_pos (dj L)];unfold cf;rw [if_neg (by rw [lt];simp)];simp only [mS];unfold cf;rw [if_neg (by rw [lt,cH,cb,lt];simp)];have e:cH L.length rest.length=(L.length::(V5 rest.length).map fun i=>L.length+2+i).map T.ref:=by simp [cH]
 rw [e];simp only [];rw [th _ (r0::rest) (by simp)]
 ·rfl
 ·intro i h h'
  cases i with
  | zero =>
   refine⟨Vm _,?_⟩;show at_ (dD L r0 rest) L.length=some (bw r0)
   unfold dD;rw [qK _ (by simp only [Vb];omega)];exact sZ
  | succ i =>
   simp only [List.getElem_cons_succ,Xk,List.getElem_range];refine⟨by omega,?_⟩;have hi:i<rest.length:=by simpa using h'
   have e:dD L r0 rest=((rest.drop (i+1)).map bw).reverse++(bw rest[i]::(((rest.take i).map bw).reverse++(.lst (cH L.length rest.length)::bw r0::L))):=by
    have e0:rest.map bw=(rest.take i).map bw++(bw rest[i]::(rest.drop (i+1)).map bw):=by rw [<- Vg,<- WE hi,<- Vk,X1]
    unfold dD;rw [e0,List.reverse_append,List.reverse_cons,Vw,Vw];rfl
   rw [e,qK _ (by simp;omega),show L.length+2+i=(((rest.take i).map bw).reverse++(T.lst (cH L.length rest.length)::bw r0::L)).length by simp;omega];exact cR
theorem AQ (ps:List Cs) (mk:Cs) (L:aa) (hl:ps.length<=20000):fE [.lst (ps.map .str),.str mk] L=.ok (.lst ((bx mk ps [[]]).map bw)) L:=by
 unfold fE;simp_arith;generalize ho:forL _ _ _ _ _ _=o;have h:=cT ho ps T.str (fun qs φ L'=>∃r0 rest o3,bx mk qs (r0::rest)=bx mk ps [[]]/\(r0::rest).flatten.length+qs.length<=20000/\rest.length+qs.length<=20000/\φ=[some (.lst (ps.map .str)),some (.str mk),some (.ref (L.length+1)),o3]/\L'=dD L r0 rest)
  (fun o=>∃r0 rest o3,r0::rest=bx mk ps [[]]/\o=.nx [some (.lst (ps.map .str)),some (.str mk),some (.ref (L.length+1)),o3] (dD L r0 rest)) rfl ⟨[],[],none,rfl,by simpa using hl,by simpa using hl,rfl,rfl⟩ (fun _ _ eJ eP q qs φ L' h=>by
   obtain⟨r0,rest,o3,e1,e2,e3,rfl,rfl⟩:=h;refine⟨sv,_,rfl,?_⟩;simp only [Vb] at e2 e3;by_cases hq:q=mk
   ·subst hq
    simp_arith [eJ,eP];have ha:at_ (.lst []::dD L r0 rest) (L.length+1)=some (.lst (cH L.length rest.length)):=by rw [at_,if_neg (by rw [nZ];omega)];exact mS
    simp_arith [eJ,eP,mS,ha,aV (show(cH L.length rest.length).length<lim by rw [pL];unfold lim;omega),xU];refine⟨r0,rest++[[]],_,?_,by simp at e2 ⊢;omega,by simp;omega,rfl,rfl⟩;rw [<- e1];show _=bx q qs (if q=q then _ else _)
    rw [if_pos rfl];rfl
   ·obtain⟨n,last,LH,pM,i1,i2,i3,i4,i5,i6,i7⟩:=xV (L:=L) (r0:=r0) (rest:=rest) q
    simp_arith [eJ,eP,show(q == mk)=false from beq_eq_false_iff_ne.mpr hq,i1,i2,bw,aV (show last.length<lim by unfold lim;omega),bu];refine⟨LH,pM,_,by rw [<- i4 mk qs hq];exact e1,by omega,by omega,rfl,i3⟩)
  fun φ L' h=>by
   obtain⟨r0,rest,o3,e1,e2,e3,rfl,rfl⟩:=h;exact⟨sv,r0,rest,o3,e1,rfl⟩
 obtain⟨r0,rest,o3,e,rfl⟩:=h;simp_arith;rw [AO,e]
theorem tj {L Ln L':aa} {t:T} (hl:L'.length=L.length) (ho:old L L') (ht:lt L.length t=true):fin L t (Ln++L')=.ok t L':=by
 have e:(Ln++L').drop ((Ln++L').length - L.length)=L':=by rw [U3,hl,Zt,YS]
 unfold fin;rw [e,if_pos ho];unfold cf;rw [if_pos ht];rfl
theorem LI {L:aa} {c c':T} (h:lt (L.length+1) c'=true):old (c::L) (c'::L):=fun n d e=>by
 unfold at_ at e ⊢
 split at e
 ·cases e;exact .inr h
 ·rename_i z;rw [if_neg z];exact .inl e
theorem LJ {L:aa} {c c' d d':T} (h:lt (L.length+2) c'=true) (h':lt (L.length+2) d'=true):old (d::c::L) (d'::c'::L):=fun n e q=>by
 unfold at_ at q ⊢
 split at q
 ·cases q;exact .inr h'
 ·rename_i z
  rw [if_neg (show ¬ n=(c::L).length from z)];unfold at_ at q ⊢
  split at q
  ·cases q;exact .inr h
  ·rename_i z;rw [if_neg z];exact .inl q
theorem lM {L:aa} {c c' t:T} (h:lt (L.length+1) c'=true) (ht:lt (L.length+1) t=true):fin (c::L) t (c'::L)=.ok t (c'::L):=tj (Ln:=[]) rfl (LI h) ht
theorem bT {f:Str} {t:T}:∀{fs:List (Str × T)},(fs.map (·.1)).contains f=false->jJ fs f t=fs++[(f,t)]
 | [],_=>rfl
 | (g,u)::r,h=>by
  simp only [Vg,List.contains_cons,Y4] at h;have:g≠f:=fun e=>by rw [e] at h;simp at h
  rw [jJ,if_neg this,bT h.2];rfl
theorem AR (cn:Str) (a b:Cs) (L:aa):make cn cZ [.str a,.str b] L=.ok (.obj cn [("left",.str a),("right",.str b)]) L:=by
 unfold make cZ;simp_arith [t8,bT (fs:=[]) (f:="left") rfl,VP,WG,show(0:Nat)<200 by decide];simp_arith [bT (fs:=[("left",.str a)]) (f:="right") (by rfl),show(0+1:Nat)<200 by decide,show(1:Nat)<200 by decide];rw [lM (by simp [lt,ow]) rfl];simp_arith;exact fB (by simp [lt,ow])
theorem T4 {x y z:Cs}:(([x,y,z].map T.str).length:Int)=3:=rfl
theorem EV (x y z:Cs) (hx:av x=true) (hz:av z=true) (L:aa):bF [.lst [.str x,.str y,.str z]] L=.ok .b7 L:=by
 unfold bF;simp_arith [show(((0+1+1+1:Nat):Int) != 3)=false from rfl,show(((3:Nat):Int) != 3)=false from rfl];simp_arith [nY x (Vt (aQ hx).2 (by decide)),nY z (Vt (aQ hz).2 (by decide)),hx,hz]
theorem tm (k:Lk) (h:av k.l=true/\av k.r=true) (L:aa):f7 [bw (ji k)] L=.ok (lT k) L:=by
 unfold f7 bw ji lT;simp_arith [EV _ _ _ h.1 h.2];cases k.same with
 | true =>
  simp_arith [show(fR true == S "same")=true from rfl,AL,AR];exact fin_same (by simp [lt,ow])
 | false =>
  simp_arith [show(fR false == S "same")=false from rfl,show(fR false == S "unlike")=true from rfl,tc,AR];exact fin_same (by simp [lt,ow])
theorem tq (p:Cs × Cs) (h:av p.1=true/\av p.2=true) (L:aa):f9 [bw (jj p)] L=.ok (pT p) L:=by
 unfold f9 bw jj;simp_arith [EV _ _ _ h.1 h.2];exact fin_same (by simp [lt,cb])
theorem lN {α:Type} {mk:Cs} {g:α->List Cs} {l:List α} {L:aa} (h0:l≠[]) (hq:∀x∈l,mk∉g x) (hl:(glue mk (l.map g)).length<=20000):fE [.lst ((glue mk (l.map g)).map .str),.str mk] L=.ok (.lst (l.map fun x=>bw (g x))) L:=by
 rw [AQ _ _ _ hl,show bx mk (glue mk (l.map g)) [[]]=l.map g from kH (l.map g) [] (by simpa using h0) fun q h=>by obtain⟨x,hx,rfl⟩:=U6.mp h;exact hq x hx,Vv];rfl
theorem qL (l:List Lk) (h0:l≠[]) (hl:(glue [44] (l.map ji)).length<=20000) (hn:l.length<=2) (h:∀k∈l,av k.l=true/\av k.r=true) (L:aa):dy [.lst ((glue [44] (l.map ji)).map .str)] L=.ok (.lst (l.map lT)) L:=by
 unfold dy;simp_arith;rw [aS (k:=stays (.lst (l.map fun k=>bw (ji k))) L) rfl l (fun k=>bw (ji k)) lT (by simp_arith [lN h0 (fun k hk=>(Bk.wJ (h k hk)).2) hl]) (by exact ai) (by exact Vt hn (by decide)) (by exact fun k hk=>by simp_arith [tm k (h k hk)])];simp_arith;exact fin_same (aq pH)
theorem qM (l:List (Cs × Cs)) (h0:l≠[]) (hl:(glue [44] (l.map jj)).length<=20000) (hn:l.length<=2) (h:∀k∈l,av k.1=true/\av k.2=true) (L:aa):dz [.lst ((glue [44] (l.map jj)).map .str)] L=.ok (.lst (l.map pT)) L:=by
 unfold dz;simp_arith;rw [aS (k:=stays (.lst (l.map fun k=>bw (jj k))) L) rfl l (fun k=>bw (jj k)) pT (by simp_arith [lN h0 (fun k hk=>(Bk.wK (h k hk)).2) hl]) (by exact ai) (by exact Vt hn (by decide)) (by exact fun k hk=>by simp_arith [tq k (h k hk)])];simp_arith;exact fin_same (aq fy)
noncomputable def yi (x:Nat × List Im):T:=.lst (x.2.map (·.t))
theorem EW {r:Rl} (n:Nat):∀x∈rows r,lt n (yi x)=true:=by
 refine Bk.DA ?_ ?_ ?_ ?_ ?_ <;> (show lt n (T.lst (List.map _ (List.map _ _)))=true;rw [Vv])
 ·exact aq bg
 ·exact aq bg
 ·exact aq pH
 ·exact aq bg
 ·exact aq fy
theorem n6 {w:Cs} (hw:(w == S "look")=false/\(w == S "tell")=false) {l:List Fc} (hf:∀f∈l,FG f) (h0:l≠[]) (hl:(glue [44] (l.map di)).length<=20000) (L:aa):cz [.str w,.lst ((glue [44] (l.map di)).map .str)] L=.ok (.lst (l.map fT)) L:=by
 unfold cz;simp_arith [hw.1,hw.2,LG l L h0 hl hf];exact fin_same (aq bg)
theorem HW {ks:List Kd} {r:Rl} (h:tY ks r):∀x∈rows r,x.2≠[]->(glue [44] (x.2.map (·.tp))).length<=20000->∀L,cz [.str (wordAt x.1),.lst ((glue [44] (x.2.map (·.tp))).map .str)] L=.ok (yi x) L:=by
 obtain⟨_,_,f3,_,f5⟩:=h.pe;have hf:=fun g hg=>(h.f g hg).1
 unfold yi;refine Bk.DA ?_ ?_ ?_ ?_ ?_ <;> (intro h0 hl L;rw [Vv] at hl ⊢;rw [Vv];have h0:=fun e=>h0 (Xf.mpr e))
 ·exact n6 ⟨rfl,rfl⟩ (fun g hg=>hf g (Va _ (Va _ hg))) h0 hl L
 ·exact n6 ⟨rfl,rfl⟩ (fun g hg=>hf g (Va _ (Vh _ hg))) h0 hl L
 ·unfold cz
  simp_arith [show(wordAt 2 == S "look")=true from rfl,show dy [.lst ((glue [44] (r.aj.map ((·.tp) ∘ lI))).map .str)] L=_ from qL _ h0 hl f3 h.l L];exact fin_same (aq pH)
 ·exact n6 ⟨rfl,rfl⟩ (fun g hg=>hf g (Vh _ hg)) h0 hl L
 ·unfold cz
  simp_arith [show(wordAt 4 == S "look")=false from rfl,show(wordAt 4 == S "tell")=true from rfl,show dz [.lst ((glue [44] (r.tell.map ((·.tp) ∘ pI))).map .str)] L=_ from qM _ h0 hl f5 h.p L];exact fin_same (aq fy)
theorem HX (k:Kd) (h:bZ k.n=true/\k.c<=4) (L:aa):fZ [.lst ((Bk.sP k).map .str)] L=.ok (kT k) L:=by
 obtain⟨nm,c,la⟩:=k;obtain⟨h1,h2⟩:=h;have h1:bZ nm=true:=h1
 have h2:c<=4:=h2;have hn:=aQ (Bk.bt h1)
 unfold fZ Bk.sP hO nV;have hc:∀c≤4,(oA (.str [48+c]) (.tup [.str (S "0"),.str (S "1"),.str (S "2"),.str (S "3"),.str (S "4")]) L=.ok true L)/\xj [.str [48+c]] L=.ok (.int c) L:=fun c h=>by
  have z:∀c≤4,PySem.intText? ⟨#[48+c]⟩=some (c:Int):=by decide +kernel
  refine⟨by rcases(by omega:c=0\/c=1\/c=2\/c=3\/c=4) with rfl|rfl|rfl|rfl|rfl <;> rfl,?_⟩;unfold xj;simp only [z c h,YW];exact aV (by simp)
 have hw:oA (.str (if la=true then Bk.cC else Bk.cB)) (.tup [.str (S "passing"),.str (S "lasting")]) L=.ok true L/\((if la=true then Bk.cC else Bk.cB) == S "lasting")=la:=by cases la <;> exact⟨rfl,rfl⟩
 simp_arith [hw.1,hw.2,mR nm (Vt hn.2 (by decide)),h1,(hc c h2).1,(hc c h2).2,show(((3:Nat):Int) != 3)=false from rfl];exact fin_same (by simp [lt,cb])
theorem LK {k:T}:dG [] k=none:=rfl
theorem jb {a b k:T} {ks:List (T × T)}:dG ((a,b)::ks) k=(open Classical in if a=k then some b else dG ks k):=by
 unfold dG;rw [Wv];by_cases h:a=k <;> simp [h]
theorem HY {α:Type} {g:α->Cs} (l:List α) (y:Cs):gL (.str y::l.map fun x=>.str (g x))=true:=by
 unfold gL;rw [XY];refine .inl (U7.mpr fun x hx=>?_);rcases Vn.mp hx with rfl|hx
 ·rfl
 ·obtain⟨z,_,rfl⟩:=U6.mp hx;rfl
theorem wW {α:Type} {g:α->Cs} {h:α->T} (l:List α) (y:Cs):dR (l.map fun x=>(.str (g x),h x)) (.str y):=by
 unfold dR;rw [Vv];exact HY l y
theorem fm {ks:List (T × T)} {k t:T} (h:∀p∈ks,p.1≠k):dput ks k t=ks++[(k,t)]:=by
 unfold dput;rw [if_neg];intro z;obtain⟨p,hp,e⟩:=WK.mp z;exact h p hp (by simpa using e)
theorem xW (p:Cs) (hp:p.length<=20000) (hc:∃c r,p=c::r/\c≠32/\c≠35) (L:aa):ja [.str p] L=.ok (.bl true) L:=by
 obtain⟨c,p,rfl,h1,h2⟩:=hc;obtain⟨q,e,hl⟩:=Bk.AI h1 p;have hs:mW (.str (c::p)) [.str [32]] L=.ok (.str (c::q)) L:=by
  unfold mW;simp only [];rw [e,Bk.ki,aV (by simp only [Vb] at hp ⊢;unfold lim;omega)]
 unfold ja;simp_arith [mM,hs,show((c::q:Cs) == [])=false from rfl,jo (s:=c::q) (by simp),List.headD_cons,show(([c]:Cs) == [35])=false from beq_eq_false_iff_ne.mpr fun z=>h2 (W8 z).1]
theorem DH (ls:List Cs) (h0:ls≠[]) (hn:ls.length<=6) (h:∀l∈ls,10∉l/\l.length<=20000/\∃c r,l=c::r/\c≠32/\c≠35) (L:aa):eW [.str (jn [10] ls)] L=.ok (.lst (ls.map .str)) L:=by
 have hs:mV true (.str (jn [10] ls)) [.str (S "\n")] L=.ok (.lst (ls.map .str)) L:=by
  unfold mV;simp only [];have hd:((ls.map toS).all fun s=>decide (s.cps.toList.length<=lim))=true:=by
   rw [aaw];refine U7.mpr fun l hl=>?_
   simp only [Wz,Bk.ki,decide_eq_true_eq];exact Vt (h l hl).2.1 (by decide)
  rw [show Yh (toS (jn [10] ls)) (toS (S "\n"))=ls.map toS from Bk.sW h0 fun l hl=>(h l hl).1,aV ⟨by decide,hd⟩,eC,aV (by simp;unfold lim;omega),Vv];simp [mk,Wz,Bk.ki]
 unfold eW;simp_arith;rw [dm (k:=stays (.lst (ls.map .str)) L) rfl ls T.str (fun _=>true) T.str (by simp_arith [mL,hs]) (by exact ai) (by unfold lim;omega) (by exact fun b hb=>by simp_arith [xW b (h b hb).2.1 (h b hb).2.2]) (by exact fun b _ _=>by simp_arith),XG.mpr fun _ _=>rfl];simp_arith;exact fin_same (aq fun _ _=>rfl)
noncomputable def tu (acc:List Cs):T:=.aU (acc.map fun x=>(.str x,.bl true))
theorem AS (acc:List Cs) (x:Cs):dput (acc.map fun x=>(T.str x,T.bl true)) (.str x) (.bl true)=(if x∈acc then acc else acc++[x]).map fun x=>(T.str x,T.bl true):=by
 by_cases h:x∈acc
 ·rw [if_pos h]
  unfold dput;rw [if_pos (WK.mpr ⟨(.str x,.bl true),U6.mpr ⟨x,h,rfl⟩,by simp⟩)]
  conv=>rhs;rw [<- Yr (acc.map _)]
  refine VE fun p hp=>?_
  obtain⟨y,_,rfl⟩:=U6.mp hp;by_cases e:T.str y=T.str x
  ·rw [if_pos e];rfl
  ·rw [if_neg e];rfl
 ·rw [if_neg h,fm]
  ·simp
  ·intro p hp
   obtain⟨y,hy,rfl⟩:=U6.mp hp;exact fun e=>h (by cases e;exact hy)
theorem pN {fs:List Fc} {L:aa} {E:List Cs->T} {b:SS} {k:aa->Prop} {o:O} {P:Cs->Prop} (ho:forL k (.one 2) (ab [bG (src (vi 2 1)) (.one 3) b]) (fs.map fT) [some (.lst (fs.map fT)),some (.ref L.length),none,none] (E []::L)=o) (hk:∀L,k L) (hl:(fs.flatMap (·.as)).length<=32) (hf:∀f∈fs,∀a∈f.as,P a)
  (hb:∀(f:Fc) (a:Cs) (acc:List Cs),P a->acc.length<lim->b [some (.lst (fs.map fT)),some (.ref L.length),some (fT f),some (.str a)] (E acc::L)=.nx [some (.lst (fs.map fT)),some (.ref L.length),some (fT f),some (.str a)] (E (fq a acc)::L)):∃z w,o=.nx [some (.lst (fs.map fT)),some (.ref L.length),z,w] (E (opens fs)::L):=by
 have h:=ta fs fT E (fun acc f=>iG f.as acc) (fun r acc=>acc.length+(r.flatMap (·.as)).length<=32/\∀f∈r,∀a∈f.as,P a) (fun z w=>[some (.lst (fs.map fT)),some (.ref L.length),z,w]) (s:=[]) ho hk (fun _ _ _=>rfl) ⟨by simpa using hl,hf⟩ fun f r acc w h=>by
  have h1:=iZ f.as acc;have h2:=h.1
  rw [YQ,U3] at h2;refine⟨⟨by omega,fun g hg=>h.2 g (U5 _ hg)⟩,?_⟩;simp_arith;generalize ho:forL _ _ _ _ _ _=o;obtain⟨z,_,rfl⟩:=ta f.as T.str E (fun acc a=>fq a acc) (fun r acc=>acc.length+r.length<=32/\∀a∈r,P a) (fun z (_:Unit)=>[some (.lst (fs.map fT)),some (.ref L.length),some (fT f),z]) (w:=()) ho (fun _=>sv) (fun _ _ _=>rfl) ⟨by omega,h.2 f U4⟩ fun a r acc _ h=>by
   have h1:=Bk.sN a acc;have h2:=h.1
   rw [Vb] at h2;exact⟨⟨by omega,fun g hg=>h.2 g (U5 _ hg)⟩,(),hb f a acc (h.2 a U4) (by unfold lim;omega)⟩
  exact⟨z,rfl⟩
 rw [show fs.foldl (fun acc f=>iG f.as acc) []=opens fs from List.foldl_flatMap.symm] at h;exact h
theorem DI (fs:List Fc) (hf:∀f∈fs,∀a∈f.as,av a=true) (hl:(fs.flatMap (·.as)).length<=32) (L:aa):eV [.lst (fs.map fT)] L=.ok (.lst ((opens fs).map .str)) L:=by
 unfold eV;simp_arith;generalize ho:forL _ _ _ _ _ _=o;obtain⟨z,w,rfl⟩:=pN (E:=tu) ho (fun _=>sv) hl hf fun f a acc hn hl=>by
  simp_arith [eZ a (aQ hn).1];unfold fq;cases hg:great a with
  | false=>simp_arith
  | true=>simp_arith [jK,tu,hl,show dR (acc.map fun x=>(T.str x,T.bl true)) (.str a) from wW (g:=id) _ a,and_self,AS]
 have hz:(opens fs).length<=lim:=by
  have:(opens fs).length<=_:=iZ (fs.flatMap (·.as)) [];simp only [VH] at this;unfold lim;omega
 have hb:cF true [.ref L.length] (tu (opens fs)::L)=.ok (.lst ((opens fs).map .str)) (tu (opens fs)::L):=by
  have e:((opens fs).map fun x=>(T.str x,T.bl true)).map (·.1)=(opens fs).map .str:=by simp
  unfold cF tu;simp only [iK,cR,eG];rw [e,aV (by simp [kZ]),eC,aV (by simpa using hz)];rfl
 simp_arith [hb];exact fA (aq fun _ _=>rfl)
noncomputable def fe (x:Nat × List Im):T × T:=(.str (wordAt x.1),yi x)
theorem vg (n:Nat):∀l:List (Nat × List Im),(∀x∈l,lt n (yi x)=true)->lt n (.aU (l.map fe))=true
 | [],_=>rfl
 | x::l,h=>by
  have:=vg n l fun y hy=>h y (U5 _ hy)
  simp only [lt,Vg,BO,fe] at this ⊢;simp [h x U4,lt_str,this]
theorem HZ {x:T} {r:List T} {L:aa} (h:r.length<=lim):jd true (.lst (x::r)) (some 1) none L=.ok (.lst r) L:=by
 unfold jd vw cut clip;simp [eC,aV h,mk]
theorem LL {x y z:T} {r:List T} {L:aa} (h:r.length<=lim):jd true (.lst (x::y::z::r)) (some 3) none L=.ok (.lst r) L:=by
 have e:cut (x::y::z::r) (some 3) none=r:=by
  unfold cut clip;simp only [Vb];rw [if_neg (by decide),show min (3:Int).toNat (r.length+1+1+1)=3 by omega];simp
 unfold jd vw;simp [e,eC,aV h,mk]
noncomputable def Pq:List T:=[.str (S "take"),.str (S "keep"),.str (S "look"),.str (S "put"),.str (S "tell")]
theorem LM {m n:Nat} {L:aa} (h:m<=n) (hn:n<5):∃t,jd true bO (some (m:Int)) none L=.ok t L/\oA (.str (wordAt n)) t L=.ok true L:=by
 obtain⟨a,b,c⟩:=(by decide +kernel:∀n<5,∀m≤n,dat 8 (.str (wordAt n))=true/\(cut Pq (some (m:Int)) none).all (dat 8)=true/\((cut Pq (some (m:Int)) none).any fun y=>eqT y (.str (wordAt n)))=true) n hn m h;refine⟨_,rfl,?_⟩;show b8 _ (R.ok ((cut Pq (some (m:Int)) none).any fun y=>eqT y (.str (wordAt n))) L)=_
 rw [aV ⟨a,b⟩,c]
theorem LN {n:Nat} {L:aa} (hn:n<5):B3 bO [.str (wordAt n)] L=.ok (.int n) L:=by
 rcases(by omega:n=0\/n=1\/n=2\/n=3\/n=4) with rfl|rfl|rfl|rfl|rfl <;> rfl
theorem AU {L:aa} {a c:T} (ha:lt L.length a=true) (hc:lt L.length c=true):fin L (.tup [a,.ref L.length]) (c::L)=.ok (.tup [a,c]) L:=by
 unfold fin;have e:(c::L).drop ((c::L).length - L.length)=L:=by simp
 rw [e,if_pos (dj L)];unfold cf;rw [if_neg (by simp [lt,cb,ha])];have e1:cf L.length (c::L) 8 a=some a:=by unfold cf;rw [if_pos ha]
 have e2:cf L.length (c::L) 8 (.ref L.length)=some c:=by
  unfold cf;rw [if_neg (by simp [lt])];simp only [cR];unfold cf;rw [if_pos hc]
 simp [W9,e1,e2,lift]
theorem H0 {α:Type} {g:α->Cs} {l:List α} (h:(l.map g).Nodup):(l.map fun x=>T.str (g x)).Nodup:=by
 rw [show(l.map fun x=>T.str (g x))=(l.map g).map T.str by simp];exact List.Pairwise.map T.str (fun a b hab e=>hab (T.str.inj e)) h
theorem AV {α:Type} {g:α->Cs} {h:α->T} {l:List α} {x:α} (hn:(l.map g).Nodup) (hx:x∈l):dG (l.map fun x=>(.str (g x),h x)) (.str (g x))=some (h x):=by
 induction l with
 | nil=>cases hx
 | cons y l ih =>
  rw [Vg,VW] at hn;rw [Vg,jb];rcases Vn.mp hx with rfl|hx
  ·rw [if_pos rfl]
  ·rw [if_neg (fun e=>hn.1 (by rw [T.str.inj e];exact Vo hx)),ih hn.2 hx]
theorem DJ {l:List (T × T)} {k:T} (h:∀p∈l,p.1≠k):dG l k=none:=by
 induction l with
 | nil=>rfl
 | cons p l ih=>rw [jb,if_neg (h p U4),ih fun q hq=>h q (U5 _ hq)]
theorem qN (l:List (Nat × List Im)) (y:Cs):dR (l.map fe) (.str y):=wW (g:=fun x:Nat × List Im=>wordAt x.1) (h:=yi) l y
theorem AW {r:Rl}:∀x∈rows r,x.1<5:=Bk.DA (show 0<5 by decide) (show 1<5 by decide) (show 2<5 by decide) (show 3<5 by decide) (show 4<5 by decide)
theorem iP {r:Rl} {x:Nat × List Im} (h:x∈iy r):x∈rows r/\x.1<5/\x.2≠[]:=by
 obtain⟨h1,h2⟩:=VC.mp h;exact⟨h1,AW x h1,fun e=>by unfold Bk.ne at h2;rw [e] at h2;cases h2⟩
theorem AX (r:Rl):((iy r).map (·.1)).Pairwise (· < ·):=List.Pairwise.sublist (List.filter_sublist.map _) (show [0,1,2,3,4].Pairwise (· < ·) by decide)
theorem tw {r:Rl} {x:Nat × List Im} (hx:x∈rows r):dG ((iy r).map fe) (.str (wordAt x.1))=if x.2=[] then none else some (yi x):=by
 by_cases h0:x.2=[]
 ·rw [if_pos h0]
  refine DJ fun p hp e=>?_
  obtain⟨y,hy,rfl⟩:=U6.mp hp;obtain⟨h1,h2,h3⟩:=iP hy;have e:=Bk.iJ (f:=fun z:Nat × List Im=>z.1) (show((rows r).map (·.1)).Nodup from(by decide:[0,1,2,3,4].Nodup)) h1 hx (Bk.jA h2 (AW x hx) (T.str.inj (show T.str (wordAt y.1)=T.str (wordAt x.1) from e)))
  exact h3 (e ▸ h0)
 ·rw [if_neg h0]
  refine AV (g:=fun x:Nat × List Im=>wordAt x.1) (h:=yi) (l:=iy r) ?_ (VC.mpr ⟨hx,?_⟩)
  ·refine X9.mpr ((X9.mp (AX r)).imp_of_mem fun ha hb h e=>?_)
   exact WG _ (Bk.jA (iP ha).2.1 (iP hb).2.1 e ▸ h)
  ·unfold Bk.ne
   simpa using h0
theorem AY {r:Rl} {x:Nat × List Im} (hx:x∈rows r) (L:aa):oA (.str (wordAt x.1)) (.ref L.length) (.aU ((iy r).map fe)::L)=.ok (!decide (x.2=[])) (.aU ((iy r).map fe)::L):=by
 unfold oA;simp only [iK,cR,eG];rw [aV (qN _ _),tw hx];by_cases h:x.2=[] <;> simp [h]
theorem n7 {r:Rl} {x:Nat × List Im} (hx:x∈rows r) (L:aa):je (.aU ((iy r).map fe)) [.str (wordAt x.1),.lst []] L=.ok (yi x) L:=by
 unfold je vw;simp only [];rw [aV (qN _ _),tw hx];by_cases h:x.2=[]
 ·rw [if_pos h];unfold yi;rw [h];rfl
 ·rw [if_neg h];rfl
theorem vh {ks:List Kd} {r:Rl} (h:tY ks r) (L:aa):va [.str r.title,.aU ((iy r).map fe)] L=.ok (aR r) L:=by
 have m:∀{α:Type} (i:α->Im) (l:List α),(l.map i).map (·.t)=l.map fun a=>(i a).t:=fun i l=>by rw [Vv];rfl
 have g0:=n7 (r:=r) (x:=(0,r.take.map fI)) (by simp [rows]);have g1:=n7 (r:=r) (x:=(1,r.keep.map fI)) (by simp [rows])
 have g2:=n7 (r:=r) (x:=(2,r.aj.map lI)) (by simp [rows]);have g3:=n7 (r:=r) (x:=(3,r.put.map fI)) (by simp [rows])
 have g4:=n7 (r:=r) (x:=(4,r.tell.map pI)) (by simp [rows]);unfold yi at g0 g1 g2 g3 g4;rw [m] at g0 g1 g2 g3 g4;have g0:∀L,je (.aU ((iy r).map fe)) [.str (wordAt 0),.lst []] L=.ok (.lst (r.take.map fT)) L:=g0
 have g1:∀L,je (.aU ((iy r).map fe)) [.str (wordAt 1),.lst []] L=.ok (.lst (r.keep.map fT)) L:=g1;have g2:∀L,je (.aU ((iy r).map fe)) [.str (wordAt 2),.lst []] L=.ok (.lst (r.aj.map lT)) L:=g2
 have g3:∀L,je (.aU ((iy r).map fe)) [.str (wordAt 3),.lst []] L=.ok (.lst (r.put.map fT)) L:=g3;have g4:∀L,je (.aU ((iy r).map fe)) [.str (wordAt 4),.lst []] L=.ok (.lst (r.tell.map pT)) L:=g4
 obtain⟨f1,f2,_⟩:=h.pe;have hl:r.take.length+r.keep.length<=lim:=by unfold lim;omega
 have hf:=fun f hf=>(h.f f (Va r.put hf)).1
 have ho:=DI (r.take++r.keep) (fun f h=>(hf f h).as) (by
  have:=Bk.gI (l:=r.take++r.keep) (g:=(·.as)) (B:=4) fun f h=>(hf f h).n
  rw [U3] at this;omega)
 rw [Vk] at ho;unfold va make iM aR;simp_arith [t8,show S "take"=wordAt 0 from rfl,show S "keep"=wordAt 1 from rfl,show S "look"=wordAt 2 from rfl,show S "put"=wordAt 3 from rfl,show S "tell"=wordAt 4 from rfl,g0,g1,g2,g3,g4,VP,Nat.reduceLT,bT (fs:=[]) (f:="title") (by rfl),bT (fs:=[("title",.str r.title)]) (f:="taken") (by rfl),bT (fs:=[("title",.str r.title),("taken",.lst (r.take.map fT))]) (f:="kept") (by rfl),bT (fs:=[("title",.str r.title),("taken",.lst (r.take.map fT)),("kept",.lst (r.keep.map fT))]) (f:="looks") (by rfl),bT (fs:=[("title",.str r.title),("taken",.lst (r.take.map fT)),("kept",.lst (r.keep.map fT)),("looks",.lst (r.aj.map lT))]) (f:="given") (by rfl),bT (fs:=[("title",.str r.title),("taken",.lst (r.take.map fT)),("kept",.lst (r.keep.map fT)),("looks",.lst (r.aj.map lT)),("given",.lst (r.put.map fT))]) (f:="told") (by rfl),bT (fs:=[("title",.str r.title),("taken",.lst (r.take.map fT)),("kept",.lst (r.keep.map fT)),("looks",.lst (r.aj.map lT)),("given",.lst (r.put.map fT)),("told",.lst (r.tell.map pT))]) (f:="names") (by rfl),WS,fld,Vy,show(("taken":Str) == "title")=false by decide,show(("kept":Str) == "title")=false by decide,show(("kept":Str) == "taken")=false by decide,U3,aV hl,ho];rw [lM]
 ·simp_arith
  refine(fB ?_).trans ?_
  ·simp [lt,ow,jl,bg,fy,pH,kr]
  ·rfl
 ·simp [lt,ow,jl,bg,fy,pH,kr]
 ·rfl
theorem tA {m:Cs}:∀(qs:List (List Cs)) (q:List Cs),q∈qs->q.length<=(glue m qs).length
 | [a],q,h=>by rw [Vx.mp h];exact Vm _
 | a::b::r,q,h=>by
  show q.length<=(a++m::glue m (b::r)).length;rw [U3,Vb];rcases Vn.mp h with e|h
  ·rw [e];omega
  ·have:=tA (m:=m) (b::r) q h;omega
theorem tB {ks:List Kd} {r:Rl} (h:tY ks r) (hl:(fu r).length<=20000) (L:aa) :
  gc [.lst ((fu r).map .str)] L=.ok (.tup [.str r.title,.aU ((iy r).map fe)]) L:=by
 have ht:=aQ (Bk.bt h.t);have BY:∀L,aH [.lst ((fu r).map .str),.int 0] L=.ok (.str Bk.gZ) L:=fun L=>fc (fu r) 0 L
 have tf:∀L,aH [.lst ((fu r).map .str),.int 1] L=.ok (.str r.title) L:=fun L=>fc (fu r) 1 L
 have xH:∀L,aH [.lst ((fu r).map .str),.int 2] L=.ok (.str [58]) L:=fun L=>fc (fu r) 2 L
 have QX:(glue [59] ((iy r).map jk)).length<=20000:=Vt (Y0 _ 3) hl;have hne:iy r≠[]:=fun e=>by
  have z:∀x∈rows r,x.2=[]:=fun x hx=>by
   have:=XS.mp e x hx;unfold Bk.ne at this;simpa using this
  have z0:=z (0,r.take.map fI) (by simp [rows]);have z1:=z (1,r.keep.map fI) (by simp [rows])
  exact h.hd (Xf.mp z0) (Xf.mp z1)
 have Nq:=fun L=>lN (L:=L) (mk:=[59]) hne (fun x hx=>(W.no (by decide +kernel) (by decide) (h.part (iP hx).1).1).1) QX
 unfold gc bO;simp_arith [BY,tf,xH,cU,show S "rule"=Bk.gZ from rfl,mR r.title (Vt ht.2 (by decide)),h.t];rw [show jd true (.lst ((fu r).map .str)) (some 3) none (.aU []::L)=.ok (.lst ((glue [59] ((iy r).map jk)).map .str)) (.aU []::L) from LL (by simp;unfold lim;omega)];simp_arith [Nq];generalize ho:forL _ _ _ _ _ _=o;have h2:=cT ho (iy r) (fun x=>bw (jk x)) (fun q φ L'=>∃done m o4 o5,done++q=iy r/\(∀y∈q,m<=y.1)/\φ=[some (.lst ((fu r).map .str)),some (.str r.title),some (.ref L.length),some (.int (m:Nat)),o4,o5]/\L'=.aU (done.map fe)::L)
  (fun o=>∃o3 o4 o5,o=.nx [some (.lst ((fu r).map .str)),some (.str r.title),some (.ref L.length),o3,o4,o5] (.aU ((iy r).map fe)::L)) rfl ⟨[],0,none,none,rfl,fun _ _=>VK _,rfl,rfl⟩ (fun _ _ eJ eP x q φ L' hh=>by
   obtain⟨done,m,o4,o5,e1,hm,rfl,rfl⟩:=hh;refine⟨sv,_,rfl,?_⟩;have QY:x∈iy r:=by rw [<- e1];simp
   obtain⟨x1,x2,x3⟩:=iP QY;have hs:=AX r
   rw [<- e1,Vk,Vg,List.pairwise_append,W4] at hs;obtain⟨_,⟨hq,_⟩,hd⟩:=hs;obtain⟨t,w1,w2⟩:=LM (L:=.aU (done.map fe)::L) (hm x U4) x2;have w3:=LN (L:=.aU (done.map fe)::L) x2
   unfold bO at w1 w3;have T6:aH [bw (jk x),.int 0] (.aU (done.map fe)::L)=.ok (.str (wordAt x.1)) (.aU (done.map fe)::L):=fc (jk x) 0 _
   have hlen:=Vt (tA (m:=[59]) ((iy r).map jk) _ (U6.mpr ⟨x,QY,rfl⟩)) QX;have hlen:(glue [44] (x.2.map (·.tp))).length<=20000:=Nat.le_of_succ_le hlen
   have Eg:jd true (bw (jk x)) (some 1) none (.aU (done.map fe)::L)=.ok (.lst ((glue [44] (x.2.map (·.tp))).map .str)) (.aU (done.map fe)::L):=HZ (by simp;unfold lim;omega);have NJ:done.length<lim:=by
    have z:done.length<=(iy r).length:=by rw [<- e1];simp
    have:(iy r).length<=5:=Xp _ _;unfold lim;omega
   have uE:dput (done.map fe) (.str (wordAt x.1)) (yi x)=(done++[x]).map fe:=by
    rw [fm,Vk];rfl;intro p hp e;obtain⟨y,hy,rfl⟩:=U6.mp hp;have:=Bk.jA (iP (by rw [<- e1];exact Va _ hy)).2.1 x2 (T.str.inj (show T.str (wordAt y.1)=T.str (wordAt x.1) from e))
    have:=hd y.1 (Vo hy) x.1 U4;omega
   simp_arith [eJ,eP,T6,w1,w2,w3,Eg,HW h x x1 x3 hlen,jK,NJ,qN,and_self,uE];exact⟨done++[x],x.1+1,_,_,by simpa using e1,fun y hy=>hq y.1 (Vo hy),rfl,rfl⟩)
  fun φ L' hh=>by
   obtain⟨done,m,o4,o5,e1,hm,rfl,rfl⟩:=hh;rw [VA] at e1;rw [e1];exact⟨sv,_,_,_,rfl⟩
 obtain⟨o3,o4,o5,rfl⟩:=h2;have n0:=AY (r:=r) (x:=(0,r.take.map fI)) (by simp [rows]) L
 have n1:=AY (r:=r) (x:=(1,r.keep.map fI)) (by simp [rows]) L;simp only [Xf] at n0 n1;simp_arith [show S "take"=wordAt 0 from rfl,show S "keep"=wordAt 1 from rfl,n0,n1];by_cases h0:r.take=[]
 ·simp_arith [h0,h.hd h0,decide_true,decide_false,WW,Xc,if_true,if_false]
  exact AU rfl (vg _ _ fun x hx=>EW _ x (iP hx).1)
 ·simp_arith [h0,decide_false,WW,Xc,if_true,if_false]
  exact AU rfl (vg _ _ fun x hx=>EW _ x (iP hx).1)
theorem jq {p:Cs} {ts:List Cs} (h:W HO p ts) (L:aa) (hp:p.length<=20000):dP [.str p] L=.ok (.lst (ts.map .str)) L:=by
 have z:=h.tk (by decide +kernel) (r:=[]) (fun c h=>nomatch h) .nil;rw [VA,VA] at z;unfold dP g9;simp_arith [AM L hp z];exact fin_same (aq fun _ _=>rfl)
theorem AZ {L:aa} {c c' d d' t:T} (h:lt (L.length+2) c'=true) (h':lt (L.length+2) d'=true) (ht:lt (L.length+2) t=true):fin (d::c::L) t (d'::c'::L)=.ok t (d'::c'::L):=tj (Ln:=[]) rfl (LJ h h') ht
theorem tC (ks:List Kd) (rs:List Rl) (k:Kd) (ok:bZ k.n=true/\k.c<=4) (hn:k.n∉ks.map (·.n)) (hz:ks.length<20000) (L:aa) :
  c7 [.ref L.length,.ref (L.length+1),.str (Bk.ay k)] (.lst (rs.map aR) :: .lst (ks.map kT)::L)=.ok .b7 (.lst (rs.map aR) :: .lst ((ks++[k]).map kT)::L):=by
 obtain⟨w,hl⟩:=Bk.lD ok;have h0:((if k.l=true then Bk.cC else Bk.cB) == Bk.gZ)=false:=by cases k.l <;> rfl
 unfold c7 cU;simp_arith [jq w _ (Vt hl (by decide)),show ∀L,ix (.lst ((sP k).map .str)) (.int 0) L=.ok (.str (if k.l=true then Bk.cC else Bk.cB)) L from fun _=>HR,show S "rule"=Bk.gZ from rfl,h0,HX k ok];rw [aS (k:=stays (.ref L.length) (.lst (rs.map aR) :: .lst (ks.map kT)::L)) rfl ks kT (fun k=>.str k.n) (by simp_arith) (by exact ai) (by unfold lim;omega) (by exact fun b _=>by simp_arith)];have tW:=DE (x:=k.n) (ys:=ks.map (·.n)) (L:=.lst (rs.map aR) :: .lst (ks.map kT)::L)
 rw [Vv,decide_eq_false hn] at tW;simp_arith [show(T.lst (ks.map fun k=>.str k.n))=.lst (ks.map (T.str ∘ fun k=>k.n)) from rfl,tW,aV (show ks.length<lim by unfold lim;omega),bu];exact AZ (aq pG) (aq mP) rfl
theorem tD (ks:List Kd) (rs:List Rl) {r:Rl} (h:tY ks r) (hn:r.title∉rs.map (·.title)) (hz:rs.length<20000) (L:aa) :
  c7 [.ref L.length,.ref (L.length+1),.str (Bk.cm r)] (.lst (rs.map aR) :: .lst (ks.map kT)::L)=.ok .b7 (.lst ((rs++[r]).map aR) :: .lst (ks.map kT)::L):=by
 obtain⟨w,hl⟩:=h.line;have kY:(fu r).length<=20000:=by
  have z:=(w.tk (by decide +kernel) (r:=[]) (fun c h=>nomatch h) .nil).len;rw [VA,VA] at z;omega
 unfold c7 cU;simp_arith [jq w _ (Vt hl (by decide)),show ∀L,ix (.lst ((fu r).map .str)) (.int 0) L=.ok (.str Bk.gZ) L from fun _=>HR,show S "rule"=Bk.gZ from rfl,tB h kY];rw [aS (k:=stays (.ref (L.length+1)) (.lst (rs.map aR) :: .lst (ks.map kT)::L)) rfl rs aR (fun k=>.str k.title) (by simp_arith) (by exact ai) (by unfold lim;omega) (by exact fun b _=>by simp_arith)];have tW:=DE (x:=r.title) (ys:=rs.map (·.title)) (L:=.lst (rs.map aR) :: .lst (ks.map kT)::L)
 rw [Vv,decide_eq_false hn] at tW;simp_arith [show(T.lst (rs.map fun k=>.str k.title))=.lst (rs.map (T.str ∘ fun k=>k.title)) from rfl,tW,vh h,aV (show rs.length<lim by unfold lim;omega),bu];exact AZ (aq pG) (aq mP) rfl
theorem H3 {ps:List (T × T)} (h:(ps.map (·.1)).Nodup):rB ps=ps:=by
 have key:∀(r d:List (T × T)),((d++r).map (·.1)).Nodup->r.foldl (fun acc p=>dput acc p.1 p.2) d=d++r:=by
  intro r;induction r with
  | nil=>intro d _;simp
  | cons p r ih =>
   intro d hn;rw [Yy,fm,ih,Vw];rfl
   ·rw [Vw];exact hn
   ·intro q hq e
    rw [Vk,WM] at hn;exact hn.2.2 _ (Vo hq) _ (Vo U4) e
 exact key ps [] h
theorem LO {α:Type} {g h:α->T} (l:List α):prsOf (l.map fun x=>.tup [g x,h x])=some (l.map fun x=>(g x,h x)):=by
 induction l with
 | nil=>rfl
 | cons x l ih=>simp only [Vg,prsOf,ih]
theorem n8 {α:Type} {g:α->Cs} {h:α->T} (l:List α) (hn:(l.map g).Nodup) (hl:l.length<=100000) (L:aa):yq (l.map fun x=>.tup [.str (g x),h x]) L=.ok (.ref L.length) (.aU (l.map fun x=>(.str (g x),h x))::L):=by
 have e:(l.map fun x=>(T.str (g x),h x)).map (·.1)=l.map fun x=>T.str (g x):=by simp
 have hm:gL (l.map fun x=>T.str (g x))=true:=by
  unfold gL;rw [XY];exact .inl (by simp [kZ])
 unfold yq;rw [LO];simp only [];rw [H3 (by rw [e];exact H0 hn),e,aV ⟨hm,by simpa using hl⟩]
theorem gq (ks:List Kd) (fs:List Fc) (x:T) (L:aa) (hx:vw L x=.lst (ks.map kT)) (hn:(ks.map (·.n)).Nodup) (hk:ks.length<=20000) (hf:∀f∈fs,aO ks f) :
  bW [x,.lst (fs.map fT)] L=.ok .b7 L:=by
 unfold bW;simp_arith;rw [aS (k:=stays x L) rfl ks kT (fun k=>.tup [.str k.n,.int k.c]) (by simp only [AB,Ja,XF,XJ,fh,aI,items,hx]) (by exact ai) (by unfold lim;omega) (by exact fun b _=>by simp_arith)];simp_arith [ic,n8 (g:=fun k:Kd=>k.n) (h:=fun k=>.int k.c) ks hn (by omega)];generalize ho:forL _ _ _ _ _ _=o;obtain⟨z,rfl⟩:=lJ fs fT (fun z=>[some x,some (.lst (fs.map fT)),some (.ref L.length),z]) ho sv (fun _ _=>rfl) fun f hm=>by
  obtain⟨k,hk,e1,e2⟩:=hf f hm;have hg:=AV (g:=fun k:Kd=>k.n) (h:=fun k=>T.int k.c) hn hk
  rw [e1] at hg;have hfit:dR (ks.map fun k=>(T.str k.n,T.int k.c)) (.str f.k):=wW (g:=fun k:Kd=>k.n) (h:=fun k=>T.int k.c) ks f.k
  have i1:oA (.str f.k) (.ref L.length) (.aU (ks.map fun k=>(.str k.n,.int k.c))::L)=.ok true (.aU (ks.map fun k=>(.str k.n,.int k.c))::L):=by
   unfold oA;simp only [iK,cR,eG];rw [aV hfit,hg];rfl
  have i2:ix (.ref L.length) (.str f.k) (.aU (ks.map fun k=>(.str k.n,.int k.c))::L)=.ok (.int k.c) (.aU (ks.map fun k=>(.str k.n,.int k.c))::L):=by
   unfold ix;simp only [iK,cR,eG];rw [aV hfit,hg];rfl
  simp_arith [i1,i2,show((f.as.length:Int) != (k.c:Int))=false by simp;omega]
 simp_arith;exact fA rfl
theorem jr (ls:List Cs) (fs:List Fc) (hf:∀f∈fs,f.k∉ls) (L:aa):bY [.lst (ls.map .str),.lst (fs.map fT)] L=.ok .b7 L:=by
 unfold bY;simp_arith;generalize ho:forL _ _ _ _ _ _=o;obtain⟨z,rfl⟩:=lJ fs fT (fun z=>[some (.lst (ls.map .str)),some (.lst (fs.map fT)),z]) ho sv (fun _ _=>rfl) fun f hm=>by simp_arith [decide_eq_false (hf f hm)]
 simp_arith
theorem tE {f:Str->Option Fn} {F:Fn} {a:SE} {φ:Fr} {L:aa} {r:Rl} (ha:a φ L=.ok (aR r) L) (hf:f "Rule"=some F):pX "calls" f a [] φ L=F [aR r] L:=by
 unfold pX;rw [ha,aI,vr];unfold aR;simp only [hf];rfl
theorem wX (r:Rl) (L:aa):bP [aR r] L=.ok (.bl (decide (r.take=[]))) L:=by
 unfold bP;simp_arith;cases r.take with
 | nil=>rfl
 | cons a l=>rw [show(((a::l).length:Int) == 0)=false by simp;omega];simp
theorem qO (ls:List Cs) (r:Rl) (hc:r.take=[]->∀f∈r.put,f.k∈ls) (L:aa):dC [.lst (ls.map .str),aR r] L=.ok .b7 L:=by
 unfold dC;simp only [lX,Vb,VH,YF,if_true];simp_arith;rw [tE (r:=r) (F:=bP) rfl rfl];simp_arith [wX];cases ht:r.take with
 | cons a l=>simp only [reduceCtorEq,decide_false];simp_arith
 | nil =>
  simp only [decide_true];simp_arith;generalize ho:forL _ _ _ _ _ _=o;obtain⟨z,rfl⟩:=lJ r.put fT (fun z=>[some (.lst (ls.map .str)),some (aR r),z]) ho sv (fun _ _=>rfl) fun f hm=>by simp_arith [decide_eq_true (hc ht f hm)]
  simp_arith
theorem A0 {L:aa} {xs ys:List T} {t:T} (ht:vw (.lst xs::L) t=.lst ys\/vw (.lst xs::L) t=.tup ys) (h:xs.length+ys.length<=lim):yo (.ref L.length) [t] (.lst xs::L)=.ok .b7 (.lst (xs++ys)::L):=by
 unfold yo;simp only [cR];rcases ht with ht|ht <;> · simp only [ht];rw [aV h,u7]
theorem qP {α:Type} {k:aa->Prop} {b:SS} {o:O} {L:aa} {acc:List Cs} (xs:List α) (enc:α->T) (g:α->List Cs) (i:Nat) (F:Option T->Fr) (z:Option T)
  (ho:forL k (.one i) b (xs.map enc) (F z) (.lst (acc.map .str)::L)=o) (hl:acc.length+(xs.flatMap g).length<=20000) (hk:∀L',k L') (hF:∀z x,(F z).set i (some x)=F (some x))
  (hb:∀x∈xs,∀acc:List Cs,acc.length+(g x).length<=20000->b (F (some (enc x))) (.lst (acc.map .str)::L)=.nx (F (some (enc x))) (.lst ((acc++g x).map .str)::L)) :
  ∃z,o=.nx (F z) (.lst ((acc++xs.flatMap g).map .str)::L) :=
 cT ho xs enc (fun r φ L'=>∃z eH,φ=F z/\L'=.lst (eH.map .str)::L/\eH++r.flatMap g=acc++xs.flatMap g/\∀x∈r,x∈xs) (fun o=>∃z,o=.nx (F z) (.lst ((acc++xs.flatMap g).map .str)::L)) rfl ⟨z,acc,rfl,rfl,rfl,fun _ h=>h⟩ (fun _ _ eJ eP x r φ L' hh=>by
  obtain⟨z,eH,rfl,rfl,e,hx⟩:=hh;refine⟨hk _,_,rfl,?_⟩;rw [hF,hb x (hx x U4) eH (by have:=congrArg Xr e;simp at this hl ⊢;omega),pJ,eJ];exact⟨_,eH++g x,rfl,rfl,by rw [<- e];simp,fun y hy=>hx y (U5 _ hy)⟩)
 fun φ L' hh=>by
  obtain⟨z,eH,rfl,rfl,e,_⟩:=hh;exact⟨hk _,z,by simp at e;rw [<- e]⟩
theorem H4 (r:Rl) (hl:(fv r).length<=20000) (L:aa):eX [aR r] L=.ok (.lst ((fv r).map .str)) L:=by
 have hs:fv r=(r.aj.flatMap fun k=>[k.l,k.r])++((r.put.flatMap (·.as))++(r.tell.flatMap fun p=>[p.1,p.2])):=rfl;rw [hs] at hl;simp only [U3] at hl;unfold eX;simp_arith;generalize ho:forL _ _ _ _ _ _=o;obtain⟨z1,rfl⟩:=qP (acc:=[]) r.aj lT (fun k=>[k.l,k.r]) 2 (fun z=>[some (aR r),some (.ref L.length),z,none,none]) none ho (by simp only [VH,VP,U3];omega) (fun _=>sv) (fun _ _=>rfl) (fun k _ acc h=>by
  simp_arith [show vw (.lst (acc.map .str)::L) (.lst [.str k.l,.str k.r])=.lst ([k.l,k.r].map .str) from rfl,A0 (L:=L) (xs:=acc.map .str) (t:=.lst [.str k.l,.str k.r]) (ys:=[k.l,k.r].map .str) (.inl rfl) (by simp at h ⊢;unfold lim;omega)];rw [Vk];rfl)
 simp_arith;generalize ho:forL _ _ _ _ _ _=o;obtain⟨z2,rfl⟩:=qP (acc:=[]++r.aj.flatMap fun k=>[k.l,k.r]) r.put fT (·.as) 3 (fun z=>[some (aR r),some (.ref L.length),z1,z,none]) none ho (by simp only [VH,VP,U3];omega) (fun _=>sv) (fun _ _=>rfl) (fun f _ acc h=>by
  simp_arith [A0 (L:=L) (xs:=acc.map .str) (t:=.tup (f.as.map .str)) (.inr rfl) (by simp at h ⊢;unfold lim;omega),<- Vk])
 simp_arith;generalize ho:forL _ _ _ _ _ _=o;obtain⟨z3,rfl⟩:=qP (acc:=([]++r.aj.flatMap fun k=>[k.l,k.r])++r.put.flatMap (·.as)) r.tell pT (fun p=>[p.1,p.2]) 4 (fun z=>[some (aR r),some (.ref L.length),z1,z2,z]) none ho (by simp only [VH,VP,U3];omega) (fun _=>sv) (fun _ _=>rfl) (fun p _ acc h=>by
  simp_arith [A0 (L:=L) (xs:=acc.map .str) (t:=pT p) (ys:=[p.1,p.2].map .str) (.inr rfl) (by simp at h ⊢;unfold lim;omega)];rw [Vk];rfl)
 simp_arith;rw [hs];simp only [VP,Vw];exact fB (aq fun _ _=>rfl)
theorem oO (r:Rl) (hl:(fv r).length<=20000) (hs:∀a∈fv r,av a=true/\(great a=true->a∈opens (r.take++r.keep))) (L:aa):dQ [aR r] L=.ok .b7 L:=by
 unfold dQ;simp_arith [H4 r hl];generalize ho:forL _ _ _ _ _ _=o;obtain⟨z,rfl⟩:=lJ (fv r) T.str (fun z=>[some (aR r),z]) ho sv (fun _ _=>rfl) fun f hm=>by
  simp_arith [eZ f (aQ (hs f hm).1).1];cases hg:great f with
  | true=>simp_arith [decide_eq_true ((hs f hm).2 hg)]
  | false=>simp_arith
 simp_arith
mutual
theorem tF {n m:Nat} (h:n<=m):∀{t:T},lt n t=true->lt m t=true
 | .ref k,e=>by rw [lt] at e ⊢;exact decide_eq_true (by have:=of_decide_eq_true e;omega)
 | .tup xs,e=>by rw [lt] at e ⊢;exact vm h e
 | .lst xs,e=>by rw [lt] at e ⊢;exact vm h e
 | .aU ks,e=>by rw [lt] at e ⊢;exact A3 h e
 | .obj _ fs,e=>by rw [lt] at e ⊢;exact A6 h e
 | .b7,_=>rfl
 | .bl _,_=>rfl
 | .int _,_=>rfl
 | .str _,_=>rfl
 | .cl _,_=>rfl
theorem vm {n m:Nat} (h:n<=m):∀{t:List T},cb n t=true->cb m t=true
 | [],_=>rfl
 | x::xs,e=>by rw [cb,Ve] at e ⊢;exact⟨tF h e.1,vm h e.2⟩
theorem A3 {n m:Nat} (h:n<=m):∀{t:List (T × T)},BO n t=true->BO m t=true
 | [],_=>rfl
 | (x,y)::xs,e=>by rw [BO,Ve,Ve] at e ⊢;exact⟨⟨tF h e.1.1,tF h e.1.2⟩,A3 h e.2⟩
theorem A6 {n m:Nat} (h:n<=m):∀{t:List (Str × T)},ow n t=true->ow m t=true
 | [],_=>rfl
 | (x,y)::xs,e=>by rw [ow,Ve] at e ⊢;exact⟨tF h e.1,A6 h e.2⟩
end
theorem vn (a b:T) (L:aa) (ha:lt L.length a=true) (hb:lt L.length b=true):vb [a,b] L=.ok (.obj "Book" [("kinds",a),("rules",b)]) L:=by
 have up:∀{t:T},lt L.length t=true->lt (L.length+1) t=true:=tF (Xe _);unfold vb make iN;simp_arith [t8,bT (fs:=[]) (f:="kinds") (by rfl),bT (fs:=[("kinds",a)]) (f:="rules") (by rfl),VP,Nat.reduceLT];rw [lM (by simp [lt,ow,up ha,up hb]) rfl];simp_arith;exact fB (by simp [lt,ow,ha,hb])
theorem DK {ks:List Kd} {rs:List Rl} (hG:KG ks) (hg:∀r∈rs,tY ks r) (L:aa) :
  eY [.ref L.length,.ref (L.length+1)] (.lst (rs.map aR) :: .lst (ks.map kT)::L)=.ok (.obj "Book" [("kinds",.ref L.length),("rules",.ref (L.length+1))]) (.lst (rs.map aR) :: .lst (ks.map kT)::L):=by
 have hk:ks.length<=20000:=by rw [hG.len];decide
 unfold eY;simp_arith;rw [dm (k:=stays (.ref L.length) (.lst (rs.map aR) :: .lst (ks.map kT)::L)) rfl ks kT (·.l) (fun k=>.str k.n) (by simp_arith) (by exact ai) (by unfold lim;omega) (by exact fun b _=>by simp_arith) (by exact fun b _ _=>by simp_arith)];simp_arith;generalize ho:forL _ _ _ _ _ _=o;have DL:((ks.filter (·.l)).map fun k=>T.str k.n)=((ks.filter (·.l)).map (·.n)).map T.str:=by simp
 rw [DL] at ho;obtain⟨z,rfl⟩:=lJ rs aR (fun z=>[some (.ref L.length),some (.ref (L.length+1)),some (.lst (((ks.filter (·.l)).map (·.n)).map T.str)),z]) ho ai (fun _ _=>rfl) fun r hr=>by
  have g:=hg r hr;obtain⟨f1,f2,f3,f4,f5⟩:=g.pe;have hs:(fv r).length<=20000:=by
   have z1:=Bk.gI (l:=r.aj) (g:=fun k=>[k.l,k.r]) (B:=2) fun _ _=>Vm 2
   have z2:=Bk.gI (l:=r.put) (g:=(·.as)) (B:=4) fun f hf=>(g.f f (Vh _ hf)).1.n
   have z3:=Bk.gI (l:=r.tell) (g:=fun p=>[p.1,p.2]) (B:=2) fun _ _=>Vm 2
   unfold fv;rw [U3,U3];omega
  have ct:∀L,bY [.lst (((ks.filter (·.l)).map (·.n)).map T.str),_] L=_:=jr _ _ g.takes;have cc:∀L,dC [.lst (((ks.filter (·.l)).map (·.n)).map T.str),_] L=_:=qO _ r g.calls
  have QZ:=gq ks (r.take++r.keep++r.put) (.ref L.length) (.lst (rs.map aR) :: .lst (ks.map kT)::L) (by simp_arith) hG.nd hk fun f hf=>(g.f f hf).2
  rw [Vk,Vk] at QZ;simp_arith [U3,aV (show r.take.length+r.keep.length<=lim by unfold lim;omega),aV (show r.take.length+r.keep.length+r.put.length<=lim by unfold lim;omega),QZ,ct,cc,oO r hs g.u5]
 simp_arith [vn (.ref L.length) (.ref (L.length+1)) (.lst (rs.map aR) :: .lst (ks.map kT)::L) (by simp [lt];omega) (by simp [lt])];exact fin_same (by simp [lt,ow];omega)
theorem A7 {ks:List Kd} {rs:List Rl} {L:aa}:fin L (.obj "Book" [("kinds",.ref L.length),("rules",.ref (L.length+1))]) (.lst (rs.map aR) :: .lst (ks.map kT)::L)=.ok (jD ks rs) L:=by
 unfold fin;have e:(T.lst (rs.map aR) :: .lst (ks.map kT)::L).drop ((T.lst (rs.map aR) :: .lst (ks.map kT)::L).length - L.length)=L:=by
  rw [show(T.lst (rs.map aR) :: .lst (ks.map kT)::L).length - L.length=2 by simp only [Vb];omega];rfl
 rw [e,if_pos (dj L)];unfold cf;rw [if_neg (by simp [lt,ow])];have e1:cf L.length (.lst (rs.map aR) :: .lst (ks.map kT)::L) 8 (.ref L.length)=some (.lst (ks.map kT)):=by
  unfold cf;rw [if_neg (by simp [lt])];simp only [sZ];unfold cf;rw [if_pos (aq pG)]
 have e2:cf L.length (.lst (rs.map aR) :: .lst (ks.map kT)::L) 8 (.ref (L.length+1))=some (.lst (rs.map aR)):=by
  unfold cf;rw [if_neg (by simp [lt])];simp only [u6];unfold cf;rw [if_pos (aq mP)]
 simp [W9,e1,e2,lift,jD]
theorem tG {ks:List Kd} {rs:List Rl} (hG:KG ks) (hr:rs.length<=2) (hg:∀r∈rs,tY ks r) (hn:(rs.map (·.title)).Nodup) (L:aa) :
  d9 [.str (jn [10] (ks.map ay++rs.map cm))] L=.ok (jD ks rs) L:=by
 have h4:=hG.len;have hl:∀l∈ks.map ay++rs.map cm,10∉l/\l.length<=20000/\∃c r,l=c::r/\c≠32/\c≠35:=fun l hl=>by
  rcases Vd.mp hl with h|h
  ·obtain⟨k,hk,rfl⟩:=U6.mp h
   obtain⟨w,hz⟩:=Bk.lD (hG.ok k hk);refine⟨(w.no (by decide +kernel) (by decide)).2 (by decide),Vt hz (by decide),?_⟩;unfold ay;cases k.l
   ·exact⟨112,_,rfl,by decide,by decide⟩
   ·exact⟨108,_,rfl,by decide,by decide⟩
  ·obtain⟨r,hr,rfl⟩:=U6.mp h
   obtain⟨w,hz⟩:=(hg r hr).line;exact⟨(w.no (by decide +kernel) (by decide)).2 (by decide),Vt hz (by decide),114,_,rfl,by decide,by decide⟩
 have ne:ks.map ay++rs.map cm≠[]:=fun e=>by
  have:=congrArg Xr e;simp [h4] at this
 have en:(ks.map ay++rs.map cm).map T.str=(ks.map Sum.inl++rs.map Sum.inr).map fun x:Kd ⊕ Rl=>.str (x.elim ay cm):=by
  rw [Vk,Vk,Vv,Vv,Vv,Vv];rfl
 unfold d9;simp_arith [DH _ ne (by rw [U3,Lm9,Lm9];omega) hl,en];generalize hT:jn [10] (ks.map ay++rs.map cm)=tx;generalize ho:forL _ _ _ _ _ _=o;have h2:=cT ho (ks.map Sum.inl++rs.map Sum.inr) _ (fun q φ L'=>∃dk k' dr r' o3,q=k'.map Sum.inl++r'.map Sum.inr/\dk++k'=ks/\dr++r'=rs/\φ=[some (.str tx),some (.ref L.length),some (.ref (L.length+1)),o3]/\L'=.lst (dr.map aR) :: .lst (dk.map kT)::L)
  (fun o=>∃o3,o=.nx [some (.str tx),some (.ref L.length),some (.ref (L.length+1)),o3] (.lst (rs.map aR) :: .lst (ks.map kT)::L)) rfl ⟨[],ks,[],rs,none,rfl,rfl,rfl,rfl,rfl⟩ (fun _ _ eJ eP x q φ L' hh=>by
   obtain⟨dk,k',dr,r',o3,e0,e1,e2,rfl,rfl⟩:=hh;refine⟨sv,_,rfl,?_⟩;cases k' with
   | cons k k' =>
    obtain⟨rfl,e9⟩:=W8 e0;have nn:=hG.nd
    rw [<- e1,Vk,Vg,WM] at nn;rw [<- e1,U3] at h4;simp_arith [eJ,eP,Sum.elim_inl,tC dk dr k (hG.ok k (by rw [<- e1];simp)) (fun z=>nn.2.2 _ z _ U4 rfl) (by omega) L];exact⟨dk++[k],k',dr,r',_,e9,by simpa using e1,e2,rfl,rfl⟩
   | nil =>
    cases r' with
    | nil=>cases e0
    | cons r r' =>
     obtain⟨rfl,e9⟩:=W8 e0;rw [VA] at e1;subst e1;rw [<- e2,Vk,Vg,WM] at hn;rw [<- e2,U3] at hr;simp_arith [eJ,eP,Sum.elim_inr,tD dk dr (hg r (by rw [<- e2];simp)) (fun z=>hn.2.2 _ z _ U4 rfl) (by omega) L];exact⟨dk,[],dr++[r],r',_,e9,VA _,by simpa using e2,rfl,rfl⟩)
  fun φ L' hh=>by
   obtain⟨dk,k',dr,r',o3,e0,e1,e2,rfl,rfl⟩:=hh;obtain⟨z1,z2⟩:=List.append_eq_nil_iff.mp e0.symm;rw [Xf.mp z1,VA] at e1;rw [Xf.mp z2,VA] at e2;rw [e1,e2];exact⟨sv,_,rfl⟩
 obtain⟨o3,rfl⟩:=h2;simp_arith [DK hG hg L];exact A7
theorem qQ (ns:List Int) (k:Int) (hk:0<=k) (L:aa):bE [.lst (ns.map .int),.int k] L=.ok (.int (ns.getD k.toNat 0)) L:=by
 unfold bE;simp_arith;by_cases h:k<ns.length
 ·have e:(ns.map T.int)[k.toNat]?=some (.int (ns.getD k.toNat 0)):=by
   have:k.toNat<ns.length:=by omega
   simp [Gd9,this]
  simp_arith [h,decide_true,wI hk e]
 ·simp_arith [h,decide_false]
  simp [Gd9,W2 (show ns.length<=k.toNat by omega)]
noncomputable def dg:Int->List Int->List Nat
 | _,[]=>[]
 | n,m::ms=>(n % m).toNat::dg (n / m) ms
theorem pO:∀(n:Int) (ms:List Int),(∀m∈ms,0<m/\m<1073741824)->Paired (fun(m:Int) (d:Nat)=>(d:Int)<m) ms (dg n ms)
 | _,[],_=>.nil
 | n,m::ms,h=>.cons (by
   have:=h m U4;have h1:=XA n (show m≠0 by omega)
   have h2:=Xo n this.1;omega) (pO (n / m) ms fun x hx=>h x (U5 _ hx))
theorem lY (c:Int) (ms:List Int) (hm:∀m∈ms,0<m/\m<1073741824) (hl:ms.length<=100):∃ds:List Nat,Paired (fun(m:Int) (d:Nat)=>(d:Int)<m) ms ds/\∀L,ax [.int c,.lst (ms.map .int)] L=.ok (.lst (ds.map fun d=>.int (d:Nat))) L:=by
 refine⟨dg (c % 2147483647 * 48271 % 2147483647) ms,pO _ _ hm,fun L=>?_⟩;unfold ax;simp_arith;generalize ho:forL _ _ _ _ _ _=o;have h:=cT ho ms T.int (fun r φ L'=>∃(n:Int) (done:List Nat) (o4:Option T),done++dg n r=dg (c % 2147483647 * 48271 % 2147483647) ms/\(∀m∈r,0<m/\m<1073741824)/\done.length+r.length<=100/\φ=[some (.int c),some (.lst (ms.map .int)),some (.int n),some (.ref L.length),o4]/\L'=.lst (done.map fun d=>.int (d:Nat))::L)
  (fun o=>∃o2 o4,o=.nx [some (.int c),some (.lst (ms.map .int)),o2,some (.ref L.length),o4] (.lst ((dg (c % 2147483647 * 48271 % 2147483647) ms).map fun d=>.int (d:Nat))::L)) rfl ⟨_,[],none,rfl,hm,by simpa using hl,rfl,rfl⟩ (fun _ _ eJ eP m r φ L' hh=>by
   obtain⟨n,done,o4,e1,h1,h2,rfl,rfl⟩:=hh;obtain⟨m1,m2⟩:=h1 m U4;have h0:=XA n (show m≠0 by omega)
   refine⟨sv,_,rfl,?_⟩;simp only [Vb] at h2;simp_arith [eJ,eP,m1,m2,aV (show done.length<lim by unfold lim;omega),show T.int (n % m)=(fun d:Nat=>T.int (d:Int)) (n % m).toNat by simp only [Int.toNat_of_nonneg h0],bu (fun d:Nat=>T.int (d:Int))];exact⟨n / m,done++[(n % m).toNat],_,by rw [<- e1];simp [dg],fun x hx=>h1 x (U5 _ hx),by simp;omega,rfl,rfl⟩)
  fun φ L' hh=>by
   obtain⟨n,done,o4,e1,h1,h2,rfl,rfl⟩:=hh;have e:dg (c % 2147483647 * 48271 % 2147483647) ms=done:=by rw [<- e1];simp [dg]
   rw [e];exact⟨sv,_,_,rfl⟩
 obtain⟨o2,o4,rfl⟩:=h;simp_arith;exact fB (aq fun _ _=>rfl)
theorem LP (s:Int):∃a b:Nat,a+b<=4/\∀k:Int,0<=k->k<8->∀L,bo [.int s,.int k] L=.ok (.str (nameOf a b k.toNat)) L:=by
 have h1:=XA s (show(5:Int)≠0 by decide);have h2:=Xo s (show(0:Int)<5 by decide)
 have h3:=XA (s / 5) (show 1+s % 5≠0 by omega);have h4:=Xo (s / 5) (show 0<1+s % 5 by omega)
 refine⟨(s / 5 % (1+s % 5)).toNat,(1+s % 5 - 1 - s / 5 % (1+s % 5)).toNat,by omega,fun k k1 k2 L=>?_⟩;have hx:ix (.str (S "abcdefgh")) (.int k) L=.ok (.str [Bk.lF.getD k.toNat 0]) L:=by
  rw [u3 k1 (show k<((S "abcdefgh").length:Int) from k2)];rfl
 unfold bo;simp_arith [show 0<1+s % 5 by omega,hx,show S "m"=[109] from rfl];generalize s / 5 % (1+s % 5)=a at *
 generalize s % 5=q at *
 simp_arith [hx,show(-4611686018427387904:Int)<=a by omega,show a<=1000000 by omega,show(-4611686018427387904:Int)<=1+q - 1 - a by omega,show 1+q - 1 - a<=1000000 by omega];rw [au (by simp;unfold lim;omega)];simp_arith;rw [au (by simp;unfold lim;omega)];simp_arith;simp [nameOf]
noncomputable def dw:Int->Nat->List Cs->List Cs
 | _,0,_=>[]
 | n,m+1,as=>as.getD (n % as.length).toNat []::dw (n / as.length) m as
theorem A8:∀(m:Nat) (n:Int) (as:List Cs),(dw n m as).length=m
 | 0,_,_=>rfl
 | m+1,n,as=>by simp [dw,A8 m]
theorem md {n:Int} {l:Nat} (h:1<=l):0<=n % (l:Int)/\(n % (l:Int)).toNat<l:=by
 have h1:=XA n (show(l:Int)≠0 by omega);have h2:=Xo n (show(0:Int)<l by omega)
 omega
theorem EX:∀(m:Nat) (n:Int) (as:List Cs),1<=as.length->∀a∈dw n m as,a∈as
 | 0,_,_,_,a,h=>by cases h
 | m+1,n,as,hl,a,h=>by
  rcases Vn.mp h with rfl|h
  ·have:=(md (n:=n) hl).2
   rw [Gd9,Ge9 this];exact Vp _
  ·exact EX m _ as hl a h
theorem A9 {α:Type} {g:α->T} {l:List α} {n:Int} {d:α} (h:1<=l.length) (L:aa):ix (.lst (l.map g)) (.int (n % (l.length:Int))) L=.ok (g (l.getD (n % l.length).toNat d)) L:=by
 have:=md (n:=n) h;exact wI this.1 (by rw [Vs,Gd9,Ge9 this.2];rfl)
theorem ib (ks:List Kd) (as:List Cs) (n:Int) (hk:1<=ks.length) (rC:ks.length<=100) (hc:∀k∈ks,k.c<=4) (ha:1<=as.length) (Jd:as.length<=100) :
  ∃f,mz ks as f/\∀L,aE [.lst (ks.map kT),.int n,.lst (as.map .str)] L=.ok (fT f) L:=by
 have hi:=(md (n:=n) hk).2;have Pt:ks.getD (n % ks.length).toNat ⟨[],0,false⟩∈ks:=by
  rw [Gd9,Ge9 hi];exact Vp _
 have hx:=fun L=>A9 (g:=kT) (n:=n) (d:=⟨[],0,false⟩) hk L
 generalize ks.getD (n % ks.length).toNat ⟨[],0,false⟩=k at Pt hx;refine⟨⟨k.n,dw (n / ks.length) k.c as⟩,⟨⟨k,Pt,rfl,A8 _ _ _⟩,EX _ _ _ ha⟩,fun L=>?_⟩;have T7:=hc k Pt
 have T8:t6 0/\t6 (k.c:Int):=⟨wN (n:=0) (by decide),wN (by omega)⟩;have hr:∀(φ:Fr) (L':aa),φ[3]?=some (some (kT k))->yl (c (.int 0)) (vi 3 1) φ L'=.ok (M.upTo 0 ((k.c:Int) - 0).toNat,fun _=>True) L':=fun φ L' h=>EN _ _ _ _ rfl (by simp only [LD,KR,Ja,h,XJ,fh,aI,QP,QU]) T8
 have hy:=fun n' L=>A9 (g:=T.str) (l:=as) (n:=n') (d:=[]) ha L
 have T9:∀n' m,dw n' (m+1) as=as.getD (n' % as.length).toNat []::dw (n' / as.length) m as:=fun _ _=>rfl
 unfold aE;simp_arith [show(0:Int)<ks.length by omega,show(ks.length:Int)<1073741824 by omega,hx,hr];generalize ho:forL _ _ _ _ _ _=o;have h:=cT ho (V5 k.c) (fun j:Nat=>T.int (0+(j:Int))) (fun r φ L'=>∃(n':Int) (done:List Cs) (o5:Option T),done++dw n' r.length as=dw (n / ks.length) k.c as/\done.length+r.length<=4/\φ=[some (.lst (ks.map kT)),some (.int n'),some (.lst (as.map .str)),some (kT k),some (.ref L.length),o5]/\L'=.lst (done.map .str)::L)
  (fun o=>∃o1 o5,o=.nx [some (.lst (ks.map kT)),o1,some (.lst (as.map .str)),some (kT k),some (.ref L.length),o5] (.lst ((dw (n / ks.length) k.c as).map .str)::L)) (by simp [M.upTo]) ⟨n / ks.length,[],none,by simp,by simpa using T7,rfl,rfl⟩ (fun _ _ eJ eP j r φ L' hh=>by
   obtain⟨n',done,o5,e1,e2,rfl,rfl⟩:=hh;refine⟨trivial,_,rfl,?_⟩;simp only [Vb] at e1 e2;simp_arith [eJ,eP,show(0:Int)<as.length by omega,show(as.length:Int)<1073741824 by omega,hy,aV (show done.length<lim by unfold lim;omega),bu];exact⟨n' / as.length,done++[as.getD (n' % as.length).toNat []],_,by rw [<- e1,T9];simp,by simp;omega,rfl,rfl⟩)
  fun φ L' hh=>by
   obtain⟨n',done,o5,e1,e2,rfl,rfl⟩:=hh;have e:dw (n / ks.length) k.c as=done:=by rw [<- e1];simp [dw]
   rw [e];exact⟨trivial,_,_,rfl⟩
 obtain⟨o1,o5,rfl⟩:=h;simp_arith;exact fA (by simp [lt,cb,kr])
theorem LQ {α:Type} {xs:List α} {n:Nat}:cut xs (some (n:Int)) none=xs.drop n:=by
 unfold cut clip;simp only [];rw [if_neg (by omega),show((n:Int)).toNat=n by omega];by_cases h:n<=xs.length
 ·rw [Nat.min_eq_left h,V2 (by simp)]
 ·rw [Nat.min_eq_right (by omega),XQ (Vm _),XQ (show xs.length<=n by omega)];simp
theorem EY {α:Type} {xs:List α} {n:Nat}:cut xs none (some (n:Int))=xs.take n:=by
 unfold cut clip;simp only [aaG,Nat.sub_zero];rw [if_neg (by omega),show((n:Int)).toNat=n by omega];by_cases h:n<=xs.length
 ·rw [Nat.min_eq_left h]
 ·rw [Nat.min_eq_right (by omega),V2 (Vm _),V2 (by omega)]
theorem LR {xs:List T} {n:Nat} {L:aa} (h:xs.length<=lim):jd true (.lst xs) (some (n:Int)) none L=.ok (.lst (xs.drop n)) L:=by
 show eC true (cut xs (some (n:Int)) none) L=_;rw [LQ,eC,au (by simp;omega)];rfl
theorem lZ {xs:List T} {n:Nat} {L:aa} (h:xs.length<=lim):jd true (.lst xs) none (some (n:Int)) L=.ok (.lst (xs.take n)) L:=by
 show eC true (cut xs none (some (n:Int))) L=_;rw [EY,eC,au (by simp;omega)];rfl
theorem qR {xs:List T} {n:Nat} {L:aa} (h:xs.length<=lim):jd false (.lst xs) none (some (n:Int)) L=.ok (.ref L.length) (.lst (xs.take n)::L):=by
 show eC false (cut xs none (some (n:Int))) L=_;rw [EY,eC,au (by simp;omega)];rfl
theorem P0 {α β:Type} {R:α->β->Prop} {ds:List β} (h:Paired R [] ds):ds=[]:=by cases h;rfl
theorem P1 {α β:Type} {R:α->β->Prop} {m:α} {ms:List α} {ds:List β} (h:Paired R (m::ms) ds):∃d r,ds=d::r/\R m d/\Paired R ms r:=by cases h with|cons a b=>exact⟨_,_,rfl,a,b⟩
theorem LS:∀d:Nat,d<4->∃c:Nat,c<=4/\∀L,ix (.tup [.int 0,.int 1,.int 2,.int 4]) (.int (d:Nat)) L=.ok (.int (c:Nat)) L
 | 0,_=>⟨0,by decide,fun _=>rfl⟩
 | 1,_=>⟨1,by decide,fun _=>rfl⟩
 | 2,_=>⟨2,by decide,fun _=>rfl⟩
 | 3,_=>⟨4,by decide,fun _=>rfl⟩
theorem DM (c:Int):∃ks,KG ks/\(ks.filter tZ).length=2/\∀L,eL [.int c] L=.ok (.lst (ks.map kT)) L:=by
 refine oz fun G n9=>?_
 obtain⟨_,p,e⟩:=lY c [25,2,4,2,4] (by decide) (by decide);obtain⟨d0,_,rfl,h0,p⟩:=P1 p;obtain⟨d1,_,rfl,h1,p⟩:=P1 p;obtain⟨d2,_,rfl,h2,p⟩:=P1 p;obtain⟨d3,_,rfl,h3,p⟩:=P1 p;obtain⟨d4,_,rfl,h4,p⟩:=P1 p;obtain rfl:=P0 p;simp only [Vg,V7] at e;obtain⟨a,b,hab,hn⟩:=LP (d0:Int);have n0:=hn 0 (by decide) (by decide)
 have n1:=hn 1 (by decide) (by decide);have n2:=hn 2 (by decide) (by decide)
 have n3:=hn 3 (by decide) (by decide);obtain⟨c2,BW,LU⟩:=LS d2 (by omega);have G:KG [⟨nameOf a b 0,d1,false⟩,⟨nameOf a b 1,c2,false⟩,⟨nameOf a b 2,2,true⟩,⟨nameOf a b 3,d3,true⟩]:=by
  refine⟨rfl,?_,?_,⟨_,U5 _ (U5 _ U4),rfl⟩,⟨_,U4,rfl⟩⟩
  ·simp only [Vg,V7,VW,Vn,WR,or_false,not_or,not_false_eq_true,and_true,Xt]
   have ne:∀i j,i<8->j<8->i≠j->nameOf a b i≠nameOf a b j:=fun i j h1 h2 h e=>h (Bk.nS h1 h2 e)
   exact⟨⟨ne 0 1 (by decide) (by decide) (by decide),ne 0 2 (by decide) (by decide) (by decide),ne 0 3 (by decide) (by decide) (by decide)⟩,⟨ne 1 2 (by decide) (by decide) (by decide),ne 1 3 (by decide) (by decide) (by decide)⟩,ne 2 3 (by decide) (by decide) (by decide)⟩
  ·intro k hk
   simp only [Vn,WR,or_false] at hk;rcases hk with rfl|rfl|rfl|rfl
   ·exact⟨Bk.cQ (by decide) hab,by show d1<=4;omega⟩
   ·exact⟨Bk.cQ (by decide) hab,BW⟩
   ·exact⟨Bk.cQ (by decide) hab,by show 2<=4;omega⟩
   ·exact⟨Bk.cQ (by decide) hab,by show d3<=4;omega⟩
 refine n9 ?_;clear n9;refine⟨_,G.DB (Bk.sX d4 _),?_,fun L=>?_⟩
 ·rw [((Bk.sX d4 _).filter tZ).length_eq];rfl
 ·unfold eL
  simp_arith [e,n0,n1,n2,n3,LU];rw [LR (by simp;decide),aI,lZ (by simp;decide)];simp_arith;rw [au (by rw [U3,VM,VS];simp only [Vb,VH];unfold lim;omega)];simp_arith;rw [Vk,List.map_drop,WZ];refine fin_same ?_;rw [lt,gN];intro i x hx;have hm:=VN hx
  have:x∈[kT ⟨nameOf a b 0,d1,false⟩,kT ⟨nameOf a b 1,c2,false⟩,kT ⟨nameOf a b 2,2,true⟩,kT ⟨nameOf a b 3,d3,true⟩]:=by
   rcases Vd.mp hm with h|h
   ·exact List.mem_of_mem_drop h
   ·exact Wk h
  simp only [Vn,WR,or_false] at this;rcases this with rfl|rfl|rfl|rfl <;> exact pG _ _
theorem DN {α β:Type} (f:α->β) (a b:α):[f a,f b]=[a,b].map f:=rfl
theorem Pu {α β:Type} (f:α->β) (a:α):[f a]=[a].map f:=rfl
theorem KG.pass {ks:List Kd} (h:KG ks):1<=(ks.filter tZ).length:=by
 obtain⟨k,hk,e⟩:=h.no;exact XR (VC.mpr ⟨hk,by simp [tZ,e]⟩)
theorem KG.last {ks:List Kd} (h:KG ks):1<=(ks.filter (·.l)).length:=by
 obtain⟨k,hk,e⟩:=h.yes;exact XR (VC.mpr ⟨hk,by simp [e]⟩)
theorem dE {α:Type} {p:α->Bool} {l:List α} {n:Nat} (h:l.length<=n):(l.filter p).length<=n:=Vt (Xp _ _) h
theorem all2 {α:Type} {P:α->Prop} {a b f:α} (ha:P a) (hb:P b) (h:f∈[a,b]):P f:=by
 rcases Vn.mp h with rfl|h
 ·exact ha
 ·rw [Vx.mp h];exact hb
theorem H5 {α:Type} {P:α->Prop} {a b f:α} {n:Nat} (ha:P a) (hb:P b) (h:f∈[a,b].take n):P f:=all2 ha hb (Wk h)
theorem DO (ks:List Kd) (hG:KG ks) (c:Int) (as:List Cs) (ha:1<=as.length) (Jd:as.length<=100) :
  ∃tk kp:List Fc,tk.length<=2/\kp.length<=2/\1<=tk.length+kp.length/\(∀f∈tk,mz (ks.filter tZ) as f)/\(∀f∈kp,mz ks as f)/\∀L,dn [.lst (ks.map kT),.int c,.lst (as.map .str)] L=.ok (.tup [.lst (tk.map fT),.lst (kp.map fT)]) L:=by
 have h4:ks.length<=100:=by rw [hG.len];decide
 have H6:∀k∈ks,k.c<=4:=fun k hk=>(hG.ok k hk).2
 have Q0:∀k∈ks.filter tZ,k.c<=4:=fun k hk=>H6 k (VC.mp hk).1
 refine oz fun G n9=>?_
 obtain⟨_,p,e⟩:=lY c [3,3,512,512] (by decide) (by decide);obtain⟨d0,_,rfl,h0,p⟩:=P1 p;obtain⟨d1,_,rfl,h1,p⟩:=P1 p;obtain⟨d2,_,rfl,h2,p⟩:=P1 p;obtain⟨d3,_,rfl,h3,p⟩:=P1 p;obtain rfl:=P0 p;obtain⟨_,p,e'⟩:=lY (c % 2147483629 * 69621 % 2147483629) [1024,1024] (by decide) (by decide);obtain⟨e0,_,rfl,_,p⟩:=P1 p;obtain⟨e1,_,rfl,_,p⟩:=P1 p;obtain rfl:=P0 p;simp only [Vg,V7] at e e';obtain⟨f1,F1,x1⟩:=ib (ks.filter tZ) as d2 (KG.pass hG) (dE h4) Q0 ha Jd;obtain⟨f2,F2,x2⟩:=ib (ks.filter tZ) as d3 (KG.pass hG) (dE h4) Q0 ha Jd;obtain⟨g1,G1,y1⟩:=ib ks as e0 (by rw [hG.len];decide) h4 H6 ha Jd;obtain⟨g2,G2,y2⟩:=ib ks as e1 (by rw [hG.len];decide) h4 H6 ha Jd;have mT:∀f∈[f1,f2].take d0,mz (ks.filter tZ) as f:=fun f hf=>H5 F1 F2 hf
 have mK:∀f∈[g1,g2].take d1,mz ks as f:=fun f hf=>H5 G1 G2 hf
 have run:∀L,dn [.lst (ks.map kT),.int c,.lst (as.map .str)] L=.ok (.tup [.lst (([f1,f2].take d0).map fT),.lst ((if ([f1,f2].take d0).length+([g1,g2].take d1).length=0 then [g1] else [g1,g2].take d1).map fT)]) L:=fun L=>by
  unfold dn;simp_arith;rw [dm rfl ks kT tZ kT (by exact rfl) (by exact ai) (by exact Vt h4 (by decide)) (by exact fun b _=>by simp_arith;rfl) (by exact fun b _ _=>by simp_arith)];simp_arith [e,e',x1,x2,y1,y2];rw [DN fT,lZ (by simp;decide)];simp_arith [y1,y2];rw [DN fT,lZ (by simp;decide),<- WZ,DN fT f1 f2,<- WZ];simp_arith [<- Int.natCast_add];by_cases hz:([f1,f2].take d0).length+([g1,g2].take d1).length=0
  ·rw [if_pos hz,hz]
   simp_arith [show(((0:Nat):Int) == 0)=true from rfl,y1];exact fin_same (by rw [lt,cb,cb,cb,aq bg,Pu fT,aq bg];rfl)
  ·rw [if_neg hz,show((((([f1,f2].take d0).length+([g1,g2].take d1).length:Nat)):Int) == 0)=false by simp only [beq_eq_false_iff_ne];omega]
   simp_arith;exact fin_same (by rw [lt,cb,cb,cb,aq bg,aq bg];rfl)
 have t2:([f1,f2].take d0).length<=2:=by simp [VS];omega
 have k2:([g1,g2].take d1).length<=2:=by simp [VS];omega
 refine n9 ?_;clear n9;by_cases hz:([f1,f2].take d0).length+([g1,g2].take d1).length=0
 ·rw [if_pos hz] at run
  exact⟨_,_,t2,by simp,by simp,mT,fun f hf=>by rw [Vx.mp hf];exact G1,run⟩
 ·rw [if_neg hz] at run
  exact⟨_,_,t2,k2,by omega,mT,mK,run⟩
theorem dF {a:Cs} (h:cO a):1<=a.length/\a.length<=12:=aQ h.1
theorem tH {a:Cs} (h:cO a):([a.headD 0] == [78])=great a:=by
 rw [h.2];by_cases e:a.headD 0=78
 ·rw [e];rfl
 ·rw [decide_eq_false e];simpa using e
theorem qS (fs:List Fc) (hf:∀f∈fs,∀a∈f.as,cO a) (hl:(fs.flatMap (·.as)).length<=32) (L:aa):cD [.lst (fs.map fT)] L=.ok (.lst ((opens fs).map .str)) L:=by
 unfold cD;simp_arith;generalize ho:forL _ _ _ _ _ _=o;obtain⟨z,w,rfl⟩:=pN (E:=fun acc=>.lst (acc.map .str)) ho (fun _=>sv) hl hf fun f a acc hn hl=>by
  simp_arith [jo (dF hn).1,show S "N"=[78] from rfl,tH hn];unfold fq;cases hg:great a with
  | false=>simp_arith
  | true =>
   simp_arith [Pp (x:=a) (t:=.ref L.length) (ys:=acc) (L:=.lst (acc.map .str)::L) (by simp_arith)];by_cases hm:a∈acc
   ·simp_arith [hm,decide_true]
   ·simp_arith [hm,decide_false,aV hl,bu]
 simp_arith;exact fB (aq fun _ _=>rfl)
theorem Q3 {x:T} {xs:List T} {n:Nat} {L:aa} (hx:vw L x=.lst xs) (h:xs.length<=lim):jd false x none (some (n:Int)) L=.ok (.ref L.length) (.lst (xs.take n)::L):=by
 unfold jd;rw [hx];exact qR h
theorem l6 (ns:List Cs) (h:1<=ns.length) (d:Nat):∃a∈ns,∀L,ix (.lst (ns.map .str)) (.int ((d:Int) % (ns.length:Int))) L=.ok (.str a) L:=by
 have:=md (n:=(d:Int)) h;refine⟨ns.getD ((d:Int) % ns.length).toNat [],?_,fun L=>A9 h L⟩;rw [Gd9,Ge9 this.2];exact Vp _
theorem Ba {L:aa} {a b c:T} (h:lt L.length c=true):fin L (.ref (L.length+2)) (c::b::a::L)=.ok c L:=AK (Ln:=[c,b,a]) K9 (by omega) h
theorem LV:∀d:Nat,∃b:Bool,d<2->∀L,ix (.tup [.str (S "same"),.str (S "unlike")]) (.int (d:Nat)) L=.ok (.str (Bk.fR b)) L
 | 0=>⟨true,fun _ _=>rfl⟩
 | 1=>⟨false,fun _ _=>rfl⟩
 | d+2=>⟨true,fun z=>absurd z (by omega)⟩
theorem DP (ns:List Cs) (hn:1<=ns.length) (xn:ns.length<=100) (c:Int):∃ks:List Lk,ks.length<=2/\(∀k∈ks,k.l∈ns/\k.r∈ns)/\∀L,eO [.lst (ns.map .str),.int c] L=.ok (.lst (ks.map oy)) L:=by
 refine oz fun G n9=>?_
 obtain⟨_,p,e⟩:=lY c [3,5,5,5,5,5] (by decide) (by decide);obtain⟨d0,_,rfl,h0,p⟩:=P1 p;obtain⟨d1,_,rfl,h1,p⟩:=P1 p;obtain⟨d2,_,rfl,h2,p⟩:=P1 p;obtain⟨d3,_,rfl,h3,p⟩:=P1 p;obtain⟨d4,_,rfl,h4,p⟩:=P1 p;obtain⟨d5,_,rfl,h5,p⟩:=P1 p;obtain rfl:=P0 p;simp only [Vg,V7] at e;obtain⟨a1,A1,x1⟩:=l6 ns hn d1;obtain⟨a2,A2,x2⟩:=l6 ns hn d2;obtain⟨a4,A4,x4⟩:=l6 ns hn d4;obtain⟨a5,A5,x5⟩:=l6 ns hn d5;have l1:oy ⟨true,a1,a2⟩=.tup [.str (S "same"),.str a1,.str a2]:=rfl
 have l2:oy ⟨false,a1,a2⟩=.tup [.str (S "unlike"),.str a1,.str a2]:=rfl;obtain⟨b3,Q4⟩:=LV d3;have l3:oy ⟨b3,a4,a5⟩=.tup [.str (Bk.fR b3),.str a4,.str a5]:=rfl
 refine n9 ?_;clear n9;refine⟨(if d0<2 then [(⟨false,a1,a2⟩:Lk)].take d0 else [⟨true,a1,a2⟩])++(if d3<2 then [⟨b3,a4,a5⟩] else []),?_,?_,fun L=>?_⟩
 ·have:([(⟨false,a1,a2⟩:Lk)].take d0).length<=1:=by rw [VS];exact YY _ _
  split <;> split <;> simp at this ⊢ <;> omega
 ·intro k hk
  rcases Vd.mp hk with hk|hk
  ·split at hk
   ·have:=Wk hk
    rw [Vx.mp this];exact⟨A1,A2⟩
   ·rw [Vx.mp hk];exact⟨A1,A2⟩
  ·split at hk
   ·rw [Vx.mp hk];exact⟨A4,A5⟩
   ·cases hk
 ·have hp:(0:Int)<ns.length:=by omega
  have tl:∀ks:List Lk,lt L.length (.lst (ks.map oy))=true:=fun ks=>aq u9
  unfold eO;simp_arith [e,hp,x1,x2,<- l1];by_cases z0:d0<2
  ·simp_arith [show((d0:Nat):Int)<2 by omega,decide_true,l1,<- l2]
   rw [qR (by simp;decide)];simp_arith;rw [if_pos z0];by_cases z3:d3<2
   ·simp_arith [show((d3:Nat):Int)<2 by omega,decide_true,Q4 z3,x4,x5,<- l3,hp]
    rw [au (show _<_ by rw [VS];simp;unfold lim;omega),if_pos z3];simp_arith;rw [show [oy ⟨false,a1,a2⟩].take d0++[oy ⟨b3,a4,a5⟩]=([(⟨false,a1,a2⟩:Lk)].take d0++[(⟨b3,a4,a5⟩:Lk)]).map oy by rw [Vk,WZ];rfl];exact Ba (tl _)
   ·simp_arith [show ¬ ((d3:Nat):Int)<2 by omega,decide_false]
    rw [if_neg z3,VA,show [oy ⟨false,a1,a2⟩].take d0=([(⟨false,a1,a2⟩:Lk)].take d0).map oy by rw [WZ];rfl];exact Ba (tl _)
  ·simp_arith [show ¬ ((d0:Nat):Int)<2 by omega,decide_false]
   rw [if_neg z0];by_cases z3:d3<2
   ·simp_arith [show((d3:Nat):Int)<2 by omega,decide_true,Q4 z3,x4,x5,<- l3,hp]
    rw [au (show _<_ by decide),if_pos z3];simp_arith;exact fB (tl [⟨true,a1,a2⟩,⟨b3,a4,a5⟩])
   ·simp_arith [show ¬ ((d3:Nat):Int)<2 by omega,decide_false]
    rw [if_neg z3];exact fB (tl [⟨true,a1,a2⟩])
theorem pR {fs:List Fc} {ks:List Kd} {as:List Cs} (hc:∀k∈ks,k.c<=4) (h:∀f∈fs,mz ks as f) (hl:fs.length<=8):(fs.flatMap (·.as)).length<=32:=by
 have:=Bk.gI (l:=fs) (g:=(·.as)) (B:=4) fun f hf=>by
  obtain⟨⟨k,hk,_,e⟩,_⟩:=h f hf;rw [e];exact hc k hk
 omega
theorem MR {xs:List T} {n:Nat} {L:aa} (h:xs.length<=lim):jd false (.lst xs) none (some (n:Int)) L=.ok (.ref L.length) (.lst (xs.take n)::L):=qR h
theorem H7 {L:aa} {a b c d:T} {x y:T} (h:lt L.length a=true/\lt L.length b=true/\lt L.length c=true/\lt L.length d=true) (hy:lt L.length y=true):fin L (.tup [a,b,c,d,.ref (L.length+1)]) (y::x::L)=.ok (.tup [a,b,c,d,y]) L:=by
 unfold fin;have e:(y::x::L).drop ((y::x::L).length - L.length)=L:=by
  rw [show(y::x::L).length - L.length=2 by simp only [Vb];omega];rfl
 rw [e,if_pos (dj L)];unfold cf;rw [if_neg (by simp [lt,cb,h])];have f:∀{t:T},lt L.length t=true->cf L.length (y::x::L) 8 t=some t:=fun h=>by unfold cf;rw [if_pos h]
 have e2:cf L.length (y::x::L) 8 (.ref (L.length+1))=some y:=by
  unfold cf;rw [if_neg (by simp [lt])];simp only [u6];unfold cf;rw [if_pos hy]
 simp [W9,f h.1,f h.2.1,f h.2.2.1,f h.2.2.2,e2,lift]
theorem twice {T g:Prop} (a:T->g) (b:T):g:=a b
theorem Bb (ks:List Kd) (hG:KG ks) (c1 c2:Int) (as os ws:List Cs) (ha:1<=as.length) (Jd:as.length<=10) (hw:1<=ws.length) (UU:ws.length<=10) (tW:∀a∈as,a∈os++ws) (hok:∀a∈as,cO a) :
  ∃r:Rl,K7 ks os ws r/\∀L,fW [.lst (ks.map kT),.int c1,.int c2,.lst (as.map .str),.lst (ws.map .str)] L=.ok (xT r) L:=by
 refine oz fun G n9=>?_
 obtain⟨tk,kp,t2,k2,CM,FT,FK,eh⟩:=DO ks hG c1 as ha (by omega);have H6:∀k∈ks,k.c<=4:=fun k hk=>(hG.ok k hk).2
 have FA:∀f∈tk++kp,mz ks as f:=fun f hf=>by
  rcases Vd.mp hf with h|h
  ·obtain⟨⟨k,hk,e⟩,h2⟩:=FT f h
   exact⟨⟨k,(VC.mp hk).1,e⟩,h2⟩
  ·exact FK f h
 have JD:=pR H6 FA (by simp;omega);have en:=fun L=>qS (tk++kp) (fun f hf a h=>hok a ((FA f hf).2 a h)) JD L
 have ho:(opens (tk++kp)).length<=0+_:=Bk.iZ _ [];obtain⟨ns,EF⟩:∃ns,ns=opens (tk++kp)++ws:=⟨_,rfl⟩;have H8:1<=ns.length:=by rw [EF,U3];omega
 have xn:ns.length<=100:=by rw [EF,U3];omega
 obtain⟨kk,CK⟩:∃kk,kk=if tk=[] then ks.filter (·.l) else ks:=⟨_,rfl⟩
 have ug:1<=kk.length:=by rw [CK];split;exact KG.last hG;rw [hG.len];decide
 have rC:kk.length<=100:=by rw [CK];split;exact dE (by rw [hG.len];decide);rw [hG.len];decide
 have I0:∀k∈kk,k.c<=4:=fun k hk=>by
  rw [CK] at hk;split at hk
  ·exact H6 k (VC.mp hk).1
  ·exact H6 k hk
 obtain⟨_,p,e⟩:=lY c2 [3,2500,2500] (by decide) (by decide);obtain⟨d0,_,rfl,h0,p⟩:=P1 p;obtain⟨d1,_,rfl,h1,p⟩:=P1 p;obtain⟨d2,_,rfl,h2,p⟩:=P1 p;obtain rfl:=P0 p;obtain⟨_,p,e'⟩:=lY (c2 % 2147483629 * 40692 % 2147483629) [2,5,5,3,5,5] (by decide) (by decide);obtain⟨b0,_,rfl,q0,p⟩:=P1 p;obtain⟨b1,_,rfl,_,p⟩:=P1 p;obtain⟨b2,_,rfl,_,p⟩:=P1 p;obtain⟨b3,_,rfl,_,p⟩:=P1 p;obtain⟨b4,_,rfl,_,p⟩:=P1 p;obtain⟨b5,_,rfl,_,p⟩:=P1 p;obtain rfl:=P0 p;simp only [Vg,V7] at e e';obtain⟨f1,F1,x1⟩:=ib kk ns d1 ug rC I0 H8 xn;obtain⟨f2,F2,x2⟩:=ib kk ns d2 ug rC I0 H8 xn;obtain⟨lk,l2,Q5,el⟩:=DP ns H8 xn (c2 % 2147483629 * 69621 % 2147483629);obtain⟨a1,A1,y1⟩:=l6 ns H8 b1;obtain⟨a2,A2,y2⟩:=l6 ns H8 b2;obtain⟨a4,A4,y4⟩:=l6 ns H8 b4;obtain⟨a5,A5,y5⟩:=l6 ns H8 b5;have hp:(0:Int)<ns.length:=by omega
 have tT:∀f∈tk,mz (ks.filter tZ) (os++ws) f:=fun f hf=>⟨(FT f hf).1,fun a h=>tW a ((FT f hf).2 a h)⟩
 have tK:∀f∈kp,mz ks (os++ws) f:=fun f hf=>⟨(FK f hf).1,fun a h=>tW a ((FK f hf).2 a h)⟩
 have tP:∀f∈[f1,f2].take d0,mz kk ns f:=fun f hf=>H5 F1 F2 hf
 obtain⟨tl,Ua,Pw,tell⟩:∃tl:List (Cs × Cs),(∀p∈tl,p.1∈ns/\p.2∈ns)/\tl.length<=2/\tl=[(a1,a2)].take b0++(if b3=1 then [(a4,a5)] else []):=by
  refine⟨_,fun p hp=>?_,?_,rfl⟩
  ·rcases Vd.mp hp with h|h
   ·rw [Vx.mp (Wk h)];exact⟨A1,A2⟩
   ·split at h
    ·rw [Vx.mp h];exact⟨A4,A5⟩
    ·cases h
  ·have:([(a1,a2)].take b0).length<=1:=by rw [VS];exact YY _ _
   rw [U3];split <;> simp at this ⊢ <;> omega
 have p2:([f1,f2].take d0).length<=2:=by rw [VS];exact YY _ _
 refine n9 ?_;clear n9;refine⟨⟨[],tk,kp,lk,[f1,f2].take d0,tl⟩,⟨tT,tK,?_,?_,?_,CM,t2,k2,l2,p2,Pw⟩,fun L=>?_⟩
 ·rw [<- CK,<- EF];exact tP
 ·rw [<- EF];exact Q5
 ·rw [<- EF];exact Ua
 ·unfold fW
  simp_arith [eh,U3,au (show tk.length+kp.length<=lim by unfold lim;omega),en,au (show(opens (tk++kp)).length+ws.length<=lim by unfold lim;omega),<- Vk,<- EF,au (show ns.length<=lim by unfold lim;omega)];have fin:∀L,fin L (.tup [.lst (tk.map fT),.lst (kp.map fT),.lst (lk.map oy),.lst (([f1,f2].take d0).map fT),.ref (L.length+1)]) (.lst (tl.map pT) :: .lst [pT (a1,a2)]::L)=.ok (xT ⟨[],tk,kp,lk,[f1,f2].take d0,tl⟩) L:=fun L=>H7 ⟨aq bg,aq bg,aq u9,aq bg⟩ (aq fy)
  apply twice
  ·intro key
   by_cases ht:tk=[]
   ·rw [if_pos ht] at CK
    simp_arith [show((tk.length:Int) == 0)=true by rw [ht];rfl];rw [dm rfl ks kT (·.l) kT (by exact rfl) (by exact ai) (by rw [hG.len];decide) (by exact fun b _=>by simp_arith) (by exact fun b _ _=>by simp_arith)];simp_arith [<- CK];exact key
   ·rw [if_neg ht] at CK
    simp_arith [show((tk.length:Int) == 0)=false by simpa using ht,<- CK];exact key
  simp_arith [e,x1,x2];rw [DN fT f1 f2,lZ (by simp;decide),<- WZ];simp_arith [el,e',hp,y1,y2];rw [show T.tup [.str a1,.str a2]=pT (a1,a2) from rfl,qR (by simp;decide)];simp_arith;by_cases h3:b3=1
  ·rw [if_pos h3] at tell
   simp_arith [show((b3:Int) == 1)=true by rw [h3];rfl,hp,y4,y5];rw [au (show _<_ by rw [VS];simp;unfold lim;omega)];simp_arith;rw [show [pT (a1,a2)].take b0++[.tup [.str a4,.str a5]]=tl.map pT by rw [tell,Vk,WZ];rfl];exact fin L
  ·rw [if_neg h3,VA] at tell
   simp_arith [show((b3:Int) == 1)=false by simp;omega];rw [show [pT (a1,a2)].take b0=tl.map pT by rw [tell,WZ];rfl];exact fin L
theorem Bc {B:Nat}:∀{ls:List Cs},(∀l∈ls,l.length<=B)->(ls.map (·.length)).sum<=ls.length * B
 | [],_=>by simp
 | a::r,h=>by
  have h1:=Bc (fun l hl=>h l (U5 _ hl));have h2:=h a U4
  rw [Vg,List.sum_cons,Vb,aa0];have h1:(r.map (·.length)).sum<=r.length * B:=h1
  omega
theorem qT {sep:Cs} {zs:List Cs} {t:T} {L:aa} {n B:Nat} (ht:t=.lst (zs.map .str)) (hz:zs.length<=n) (hB:∀z∈zs,z.length<=B) (h:n * B+n * sep.length<=16777216):lS (.str sep) [t] L=.ok (.str (jn sep zs)) L:=by
 subst ht;refine HM ?_;have:=Bc hB
 have h1:=Y5 B hz;have h2:=Y5 sep.length hz
 omega
theorem Be (f:Fc):iH f=if f.as=[] then f.k else ((f.k++[40])++jn [44] f.as)++[41]:=rfl
theorem DQ (f:Fc) (h:FG f) (L:aa):cw [fT f] L=.ok (.str (iH f)) L:=by
 have ha:∀a∈f.as,a.length<=12:=fun a h2=>(aQ (h.as a h2)).2
 have hn:=h.n;have hf:(iH f).length<=70:=h.im.1
 unfold cw;simp_arith;by_cases h0:f.as=[]
 ·simp_arith [show((f.as.length:Int) == 0)=true by rw [h0];rfl]
  rw [Be,if_pos h0]
 ·have hb:cF true [.tup (f.as.map .str)] L=.ok (.lst (f.as.map .str)) L:=by
   show eC true (f.as.map .str) L=_;rw [eC,au (by rw [Lm9];unfold lim;omega)];rfl
  rw [Be,if_neg h0] at hf;simp only [U3,V6] at hf;simp_arith [show((f.as.length:Int) == 0)=false by simpa using h0,V6];rw [au (by unfold lim;omega)];simp_arith [hb,qT (sep:=[44]) rfl hn ha (by decide)];simp only [U3,Vb,VH];rw [au (by unfold lim;omega)];simp_arith;rw [au (by simp only [U3,Vb,VH];unfold lim;omega),Be,if_neg h0];simp_arith
theorem kI {α:Type} (n:Nat) (l:List α) (g:α->Im) (h:n<5/\(l.map g).length<=2/\∀i∈l.map g,sR i) (L:aa):aK [.str (wordAt n),.lst (l.map fun a=>.str (g a).tx)] L=.ok (.lst ((pE (wordAt n) ((l.map g).map (·.tx))).map .str)) L:=by
 have hw:=(Bk.AF h.1).2;have hl:∀m∈(l.map g).map (·.tx),m.length<=70:=fun m hm=>by
  obtain⟨i,hi,rfl⟩:=U6.mp hm;exact(h.2.2 i hi).1
 have hr:=Bk.lC (sep:=[44,32]) hl;have hm:((l.map g).map (·.tx)).length<=2:=by rw [Lm9];exact h.2.1
 rw [show(l.map fun a=>T.str (g a).tx)=((l.map g).map (·.tx)).map .str by rw [Vv,Vv];rfl];generalize (l.map g).map (·.tx)=ms at hr hm hl;unfold aK pE;simp_arith;by_cases h0:ms=[]
 ·simp_arith [show((ms.length:Int) == 0)=true by rw [h0];rfl]
  rw [if_pos h0];exact fin_same rfl
 ·simp_arith [show((ms.length:Int) == 0)=false by simpa using h0,V6]
  rw [au (by unfold lim;omega)];simp_arith [show S ", "=[44,32] from rfl,qT (sep:=[44,32]) rfl hm hl (by decide)];rw [au (by simp only [U3,Vb,VH] at hr ⊢;unfold lim;omega)];simp_arith;rw [if_neg h0,Vw];exact fin_same rfl
theorem wY {α:Type} {g:α->T}:∀(l:List α) (n:Nat),num n (l.map g)=(l.zipIdx n).map fun p=>.tup [.int (p.2:Nat),g p.1]
 | [],_=>rfl
 | a::l,n=>by rw [Vg,num,wY l (n+1)];rfl
theorem wZ:∀c≤4,(WC (toString ((c:Nat):Int))).cps.toList=[48+c]/\((c:Nat):Int).natAbs.log2<1920:=by decide +kernel
theorem w5 (c:Nat) (h:c<=4) (L:aa):t9 [.int (c:Nat)] L=.ok (.str [48+c]) L:=by
 unfold t9;simp only [(wZ c h).1];exact au ⟨(wZ c h).2,by simp;decide⟩
theorem qU (fs:List Fc) (h:∀f∈fs,FG f) (hl:fs.length<=10) {s:SI} {aY:List (Option Nat)} {φ:Fr} {L:aa} {k:aa->Prop} {r:R T} (hc:comp true s aY (.one 1) yes (ae cw [v 1]) φ L=r) (hs:s φ L=.ok (fs.map fT,k) L) (hk:k L) (hv:∀x,((inner aY φ).set 1 (some x))[1]?=some (some x)) :
  r=.ok (.lst (fs.map fun f=>.str (iH f))) L:=by
 rw [aS hc fs fT (fun f=>.str (iH f)) hs hk (by unfold lim;omega) fun f hf=>by simp only [AA,nN,nM,Ja,hv,XJ,fh,aI];exact DQ f (h f hf) L];rfl
theorem Px {a b:Cs} {L:aa} (h:a.length+b.length<=lim):aZ true .Add (.str a) (.str b) L=.ok (.str (a++b)) L:=Ls.trans (if_pos h)
theorem iQ (w:Cs) (m:List Cs):(pE w m).length<=1:=by
 unfold pE;split <;> simp
theorem pS {α β:Type} (f:α->β):∀(l:List α) (acc:List β),l.foldl (fun acc k=>acc++[f k]) acc=acc++l.map f
 | [],acc=>(VA acc).symm
 | a::l,acc=>by rw [Yy,pS f l,Vw];rfl
theorem H9 (ks:List Kd) (hG:KG ks) (rs:List Rl) (h2:rs.length=2) (hT:∀r∈rs,∀i<2,tY ks (Bk.fS r (Bk.rT i))) (L:aa) :
  dZ [.lst (ks.map kT),.lst (rs.map xT)] L=.ok (.str (jn [10] (ks.map ay++(aw rs).map cm))) L:=by
 unfold dZ;simp_arith;generalize ho:forL _ _ _ _ _ _=o;obtain⟨o3,o4,rfl⟩:=ta ks kT (fun acc=>.lst (acc.map .str)) (fun acc k=>acc++[ay k]) (fun r acc=>acc.length+r.length<=4/\∀k∈r,bZ k.n=true/\k.c<=4) (fun z w=>[some (.lst (ks.map kT)),some (.lst (rs.map xT)),some (.ref L.length),z,w,none,none,none]) (s:=[]) ho (fun _=>sv) (fun _ _ _=>rfl) ⟨by rw [hG.len];decide,hG.ok⟩ fun k r acc w h=>by
  have hk:=h.2 k U4;have hl:=(aQ (Bk.bt hk.1)).2
  have h1:=h.1;rw [Vb] at h1;have hd:acc.length<lim:=by unfold lim;omega
  refine⟨⟨by rw [U3,V6];omega,fun g hg=>h.2 g (U5 _ hg)⟩,?_⟩;simp_all_arith [w5 k.c hk.2,show S "lasting "=Bk.cC++[32] from rfl,show S "passing "=Bk.cB++[32] from rfl];cases Q6:k.l with
  | true =>
   simp_all_arith [w5 k.c hk.2];exact⟨_,by simp [ay,Q6];rfl⟩
  | false =>
   simp_all_arith [w5 k.c hk.2];exact⟨_,by simp [ay,Q6];rfl⟩
 rw [pS,VP];simp_arith;rw [wY rs 0];generalize ho:forL _ _ _ _ _ _=o;have h:=cT ho rs.zipIdx (fun p=>.tup [.int (p.2:Nat),xT p.1]) (fun q φ L'=>∃done o5 o6 o7,done++q=rs.zipIdx/\φ=[some (.lst (ks.map kT)),some (.lst (rs.map xT)),some (.ref L.length),o3,o4,o5,o6,o7]/\L'=.lst ((ks.map ay++done.map fun p=>cm (Bk.fS p.1 (Bk.rT p.2))).map .str)::L)
  (fun o=>∃φ,o=.nx (some (.lst (ks.map kT))::some (.lst (rs.map xT))::some (.ref L.length)::φ) (.lst ((ks.map ay++(aw rs).map cm).map .str)::L)) rfl ⟨[],none,none,none,rfl,rfl,by simp⟩ (fun _ _ eJ eP p q φ L' hh=>by
   obtain⟨done,o5,o6,o7,e1,rfl,rfl⟩:=hh;obtain⟨r,i⟩:=p;have hm:(r,i)∈rs.zipIdx:=by rw [<- e1];simp
   have hi:i<2:=by have:=List.mem_zipIdx hm;omega
   have hr:r∈rs:=(List.mem_zipIdx' hm).2 ▸ Vp _;refine oz fun G n9=>?_
   have H:=hT r hr i hi;have hf:∀f∈r.take++r.keep++r.put,FG f:=fun f hf=>(H.f f hf).1
   have gt:∀f∈r.take,FG f:=fun f h=>hf f (Va _ (Va _ h))
   have gk:∀f∈r.keep,FG f:=fun f h=>hf f (Va _ (Vh _ h))
   have gp:∀f∈r.put,FG f:=fun f h=>hf f (Vh _ h)
   have g2:∀k∈r.aj,av k.l=true/\av k.r=true:=H.l;have g3:∀k∈r.tell,av k.1=true/\av k.2=true:=H.p
   obtain⟨f1,f2,f3,f4,f5⟩:MO 2 r:=H.pe;have c1:=iQ (wordAt 0) ((r.take.map fI).map (·.tx))
   have c2:=iQ (wordAt 1) ((r.keep.map fI).map (·.tx));have c3:=iQ (wordAt 2) ((r.aj.map lI).map (·.tx))
   have c4:=iQ (wordAt 3) ((r.put.map fI).map (·.tx));have c5:=iQ (wordAt 4) ((r.tell.map pI).map (·.tx))
   have row:=H.row;have q0:∀L,aK [.str (wordAt 0),.lst (r.take.map fun f=>.str (iH f))] L=_:=kI 0 r.take fI (row _ (.head _))
   have q1:∀L,aK [.str (wordAt 1),.lst (r.keep.map fun f=>.str (iH f))] L=_:=kI 1 r.keep fI (row _ (.tail _ (.head _)));have q2:∀L,aK [.str (wordAt 2),.lst (r.aj.map fun f=>.str (nQ f))] L=_:=kI 2 r.aj lI (row _ (.tail _ (.tail _ (.head _))))
   have q3:∀L,aK [.str (wordAt 3),.lst (r.put.map fun f=>.str (iH f))] L=_:=kI 3 r.put fI (row _ (.tail _ (.tail _ (.tail _ (.head _)))));have q4:∀L,aK [.str (wordAt 4),.lst (r.tell.map fun f=>.str (nR f))] L=_:=kI 4 r.tell pI (row _ (.tail _ (.tail _ (.tail _ (.tail _ (.head _))))))
   have hdn:done.length<=2:=by
    have:=congrArg Xr e1;simp [h2] at this;omega
   have h4:=hG.len;refine n9 ?_;clear n9;refine⟨sv,_,rfl,?_⟩;simp_arith [eJ,eP];rw [qU r.take gt (by omega) rfl (by exact rfl) (by exact sv) (by exact fun _=>rfl)];simp_arith [eJ,eP,show S "take"=wordAt 0 from rfl,q0];rw [qU r.keep gk (by omega) rfl (by exact rfl) (by exact sv) (by exact fun _=>rfl)];simp_all_arith [eJ,eP,show S "keep"=wordAt 1 from rfl,q1];rw [aS rfl r.aj oy (fun k=>.str (nQ k)) (by exact rfl) (by exact sv) (by unfold lim;omega) (fun k hk=>by
    have z:=g2 k hk;have z1:=(aQ z.1).2
    have z2:=(aQ z.2).2;have z3:=(Bk.AG k.same).2
    simp_all_arith [eJ,eP];simp [nQ])]
   simp_all_arith [eJ,eP,show S "look"=wordAt 2 from rfl,q2];rw [qU r.put gp (by omega) rfl (by exact rfl) (by exact sv) (by exact fun _=>rfl)];simp_all_arith [eJ,eP,show S "put"=wordAt 3 from rfl,q3];rw [aS rfl r.tell pT (fun k=>.str (nR k)) (by exact rfl) (by exact sv) (by unfold lim;omega) (fun k hk=>by
    have z:=g3 k hk;have z1:=(aQ z.1).2
    have z2:=(aQ z.2).2;simp_all_arith [eJ,eP,show S " = "=[32,61,32] from rfl];simp [nR])]
   simp_all_arith [eJ,eP,show S "tell"=wordAt 4 from rfl,q4];have hz:_++(_++(_++(_++(_++[]))))=(iy r).map ip:=Bk.sQ (rows r)
   obtain⟨zl,zb⟩:((iy r).map ip).length<=5/\∀l∈(iy r).map ip,l.length<=150:=H.parts;have zj:=Vt (Bk.lC (sep:=[59,32]) zb) (Y5 152 zl)
   have hj:=fun L=>qT (sep:=S "; ") (zs:=(iy r).map ip) (L:=L) rfl zl zb (by decide)
   rw [<- hz] at hj;simp only [VA,Vk,<- Vw] at hj;simp only [VA,<- Vw] at hz;rw [hz,show S "; "=[59,32] from rfl] at hj;simp_all_arith [eJ,eP,w5 i (by omega),show S "rule r"=[114,117,108,101,32,114] from rfl,show S ": "=[58,32] from rfl,show S "; "=[59,32] from rfl,hj];exact⟨done++[(r,i)],_,_,_,by simpa using e1,rfl,by simp [cm,Bk.fS,Bk.rT,iy,rows]⟩)
  fun φ L' hh=>by
   obtain⟨done,o5,o6,o7,e1,rfl,rfl⟩:=hh;rw [VA] at e1;subst e1;rw [show(aw rs).map cm=rs.zipIdx.map fun p=>cm (Bk.fS p.1 (Bk.rT p.2)) by unfold aw;rw [Vv];rfl];exact⟨sv,_,rfl⟩
 obtain⟨φ,rfl⟩:=h;have Ub:(ks.map ay++(aw rs).map cm).length<=6:=by simp [aw,hG.len,h2]
 have Uc:lS (.str (S "\n")) [.ref L.length] (.lst ((ks.map ay++(aw rs).map cm).map .str)::L)=.ok (.str (jn [10] (ks.map ay++(aw rs).map cm))) (.lst ((ks.map ay++(aw rs).map cm).map .str)::L):=by
  have:=qT (sep:=S "\n") (zs:=ks.map ay++(aw rs).map cm) (L:=.lst ((ks.map ay++(aw rs).map cm).map .str)::L) (B:=800) rfl Ub (fun l h=>by
   rcases Vd.mp h with h|h
   ·obtain⟨k,hk,rfl⟩:=U6.mp h
    exact(Bk.lD (hG.ok k hk)).2
   ·obtain⟨r,hr,rfl⟩:=U6.mp h
    obtain⟨x,hx,rfl⟩:=U6.mp hr;have:=List.mem_zipIdx hx
    exact(hT x.1 ((List.mem_zipIdx' hx).2 ▸ Vp _) x.2 (by omega)).line.2) (by decide)
  rw [show S "\n"=[10] from rfl] at this ⊢;rw [<- this];unfold lS;simp only [items,iK,cR,eG];rfl
 simp_arith [Uc];exact fA rfl
noncomputable def oN (a b k:Nat):Cs:=78::nameOf a b k
theorem Ia {a b k:Nat} (hk:k<8) (hab:a+b<=4):(nameOf a b k).all fL=true:=by
 have h:=Bk.bt (Bk.cQ hk hab);unfold av at h;simp only [Ve] at h;exact h.2.2
theorem EZ (a b k:Nat):(nameOf a b k).length=a+b+1:=by simp [nameOf];omega
theorem gK (a b k:Nat):great (oN a b k)=true:=by
 show decide ((78:Nat)∈EI.qI.cps.toList)=true;decide +kernel
theorem iR {a b k:Nat} (hk:k<8) (hab:a+b<=4):great (nameOf a b k)=false:=by
 have h:=Bk.cQ hk hab;unfold bZ at h;rw [Ve] at h;have h:=of_decide_eq_true h.2
 unfold great;refine decide_eq_false fun z=>?_
 generalize (nameOf a b k).headD 0=c at h z;exact(by decide +kernel:∀c∈EI.u4.cps.toList,c∉EI.qI.cps.toList) c h z
theorem jE {a b k:Nat} (hk:k<8) (hab:a+b<=4):cO (oN a b k):=by
 refine⟨?_,by rw [gK];rfl⟩;unfold av oN;rw [VU,Ia hk hab,show fL 78=true by decide +kernel,Vb,EZ,decide_eq_true (by omega),decide_eq_true (by omega)];rfl
theorem vo {a b k:Nat} (hk:k<8) (hab:a+b<=4):cO (nameOf a b k):=by
 refine⟨Bk.bt (Bk.cQ hk hab),?_⟩;rw [iR hk hab];refine(decide_eq_false fun z=>?_).symm;have:great (nameOf a b k)=true:=by unfold great;rw [z];decide +kernel
 rw [iR hk hab] at this;cases this
theorem Ib {L:aa} {a b c x:T} (ha:lt L.length a=true) (hb:lt L.length b=true) (hc:lt L.length c=true) (hx:lt L.length x=true):fin L (.tup [a,b,c,.ref L.length]) (x::L)=.ok (.tup [a,b,c,x]) L:=by
 unfold fin;have e:(x::L).drop ((x::L).length - L.length)=L:=by simp
 rw [e,if_pos (dj L)];unfold cf;rw [if_neg (by simp [lt,cb,ha,hb,hc])];have f:∀{t:T},lt L.length t=true->cf L.length (x::L) 8 t=some t:=fun h=>by unfold cf;rw [if_pos h]
 have e2:cf L.length (x::L) 8 (.ref L.length)=some x:=by
  unfold cf;rw [if_neg (by simp [lt])];simp only [cR];unfold cf;rw [if_pos hx]
 simp [W9,f ha,f hb,f hc,e2,lift]
theorem al {α:Type} {p:α->Prop} {a:α} {l:List α} (h:p a) (t:∀x∈l,p x):∀x∈a::l,p x:=Yg.mpr ⟨h,t⟩
theorem Bf {α:Type} {p:α->Prop}:∀x∈([]:List α),p x:=fun _ h=>nomatch h
theorem Py (cs:List Int):∃ks ns ws rs,sY ks ns ws rs/\(ks.filter tZ).length=2/\∀L,dX [.lst (cs.map .int)] L=.ok (.tup [.lst (ks.map kT),.lst (ns.map .str),.lst (ws.map .str),.lst (rs.map xT)]) L:=by
 refine oz fun G n9=>?_
 obtain⟨ks,hG,hP,ek⟩:=DM (cs.getD 0 0);obtain⟨a,b,hab,hn⟩:=LP (cs.getD 1 0 % 25);have n4:=hn 4 (by decide) (by decide)
 have n5:=hn 5 (by decide) (by decide);have Q7:∀x∈[oN a b 0,oN a b 1,oN a b 2,nameOf a b 4],cO x:=al (jE (by decide) hab) (al (jE (by decide) hab) (al (jE (by decide) hab) (al (vo (by decide) hab) Bf)))
 have Q8:∀x∈[oN a b 0,oN a b 1,oN a b 2,nameOf a b 4],x∈[oN a b 0,oN a b 1,oN a b 2]++[nameOf a b 4,nameOf a b 5]:=fun x hx=>(Vd.mp (show x∈[oN a b 0,oN a b 1,oN a b 2]++[nameOf a b 4] from hx)).elim (Va _) fun h=>Vh _ (Va [nameOf a b 5] h)
 obtain⟨r1,D1,x1⟩:=Bb ks hG (cs.getD 2 0) (cs.getD 3 0) [oN a b 0,oN a b 1,oN a b 2,nameOf a b 4] [oN a b 0,oN a b 1,oN a b 2] [nameOf a b 4,nameOf a b 5] (by simp) (by simp) (by simp) (by simp) Q8 Q7;obtain⟨r2,D2,x2⟩:=Bb ks hG (cs.getD 4 0) (cs.getD 5 0) [oN a b 0,oN a b 1,oN a b 2,nameOf a b 4] [oN a b 0,oN a b 1,oN a b 2] [nameOf a b 4,nameOf a b 5] (by simp) (by simp) (by simp) (by simp) Q8 Q7;have neN:∀i j,i<8->j<8->i≠j->oN a b i≠oN a b j:=fun i j h1 h2 h e=>h (Bk.nS h1 h2 (W8 e).2)
 have Ud:nameOf a b 4≠nameOf a b 5:=fun e=>absurd (Bk.nS (by decide) (by decide) e) (by decide)
 have E0:∀i j,j<8->oN a b i≠nameOf a b j:=fun i j h e=>by have:=gK a b i;rw [e,iR h hab] at this;cases this
 refine n9 ?_;clear n9;refine⟨ks,[oN a b 0,oN a b 1,oN a b 2,oN a b 3],[nameOf a b 4,nameOf a b 5],[r1,r2],⟨hG,rfl,rfl,?_,?_,?_,?_,rfl,?_⟩,hP,fun L=>?_⟩
 ·exact al (jE (by decide) hab) (al (jE (by decide) hab) (al (jE (by decide) hab) (al (jE (by decide) hab) (al (vo (by decide) hab) (al (vo (by decide) hab) Bf)))))
 ·exact al (gK _ _ _) (al (gK _ _ _) (al (gK _ _ _) (al (gK _ _ _) Bf)))
 ·exact al (iR (by decide) hab) (al (iR (by decide) hab) Bf)
 ·exact .cons (al (neN 0 1 (by decide) (by decide) (by decide)) (al (neN 0 2 (by decide) (by decide) (by decide)) (al (neN 0 3 (by decide) (by decide) (by decide)) (al (E0 0 4 (by decide)) (al (E0 0 5 (by decide)) Bf))))) (.cons (al (neN 1 2 (by decide) (by decide) (by decide)) (al (neN 1 3 (by decide) (by decide) (by decide)) (al (E0 1 4 (by decide)) (al (E0 1 5 (by decide)) Bf)))) (.cons (al (neN 2 3 (by decide) (by decide) (by decide)) (al (E0 2 4 (by decide)) (al (E0 2 5 (by decide)) Bf))) (.cons (al (E0 3 4 (by decide)) (al (E0 3 5 (by decide)) Bf)) (.cons (al Ud Bf) (.cons Bf .nil)))))
 ·exact al (by assumption) (al (by assumption) Bf)
 ·have Ue:∀k,k<8->(nameOf a b k).length<=5:=fun k _=>by rw [EZ];omega
  unfold dX;simp_all_arith [qQ,ek];rw [aS rfl (V5 4) (fun j:Nat=>T.int (0+(j:Int))) (fun j=>.str (oN a b j)) (by exact EN _ _ _ _ rfl rfl ⟨wN (n:=0) (by decide),wN (n:=4) (by decide)⟩) (by exact trivial) (by decide) (fun j hj=>by
   have hj:j<4:=V3.mp hj;have:=Ue j (by omega)
   have e:=fun L=>hn (0+(j:Int)) (by omega) (by omega) L
   simp only [show(0+(j:Int)).toNat=j by omega] at e;simp_all_arith [e,show S "N"=[78] from rfl];rfl)]
  simp_all_arith [n4,n5];rw [show(V5 4).map (fun j=>T.str (oN a b j))=[.str (oN a b 0),.str (oN a b 1),.str (oN a b 2),.str (oN a b 3)] from rfl];simp only [Vg,V7] at x1 x2;have s3:∀L,jd true (.lst [.str (oN a b 0),.str (oN a b 1),.str (oN a b 2),.str (oN a b 3)]) none (some 3) L=.ok (.lst [.str (oN a b 0),.str (oN a b 1),.str (oN a b 2)]) L:=fun L=>lZ (n:=3) (by simp;decide)
  have s1:∀L,jd true (.lst [.str (nameOf a b 4),.str (nameOf a b 5)]) none (some 1) L=.ok (.lst [.str (nameOf a b 4)]) L:=fun L=>lZ (n:=1) (by simp;decide)
  generalize ho:forL _ _ _ _ _ _=o;have h:=cT ho [2,4] T.int (fun q φ L'=>∃done o6 o7 o8,φ=[some (.lst (cs.map .int)),some (.lst (ks.map kT)),some (.int (cs.getD 1 0 % 25)),some (.lst [.str (oN a b 0),.str (oN a b 1),.str (oN a b 2),.str (oN a b 3)]),some (.lst [.str (nameOf a b 4),.str (nameOf a b 5)]),some (.ref L.length),o6,o7,o8]/\L'=.lst done::L/\((q=[2,4]/\done=[])\/(q=[4]/\done=[xT r1])\/(q=[]/\done=[xT r1,xT r2])))
   (fun o=>∃o2 o6 o7 o8,o=.nx [some (.lst (cs.map .int)),some (.lst (ks.map kT)),o2,some (.lst [.str (oN a b 0),.str (oN a b 1),.str (oN a b 2),.str (oN a b 3)]),some (.lst [.str (nameOf a b 4),.str (nameOf a b 5)]),some (.ref L.length),o6,o7,o8] (.lst [xT r1,xT r2]::L)) rfl ⟨[],none,none,none,rfl,rfl,.inl ⟨rfl,rfl⟩⟩ (fun _ _ eJ eP x q φ L' hh=>by
    obtain⟨done,o6,o7,o8,rfl,rfl,hh⟩:=hh;refine⟨sv,_,rfl,?_⟩;rcases hh with⟨hq,rfl⟩|⟨hq,rfl⟩|⟨hq,_⟩
    ·obtain⟨rfl,rfl⟩:=W8 hq
     simp_all_arith [eJ,eP,qQ,s3,s1,Int.reduceAdd,x1];exact⟨_,_,_,_,rfl,rfl,.inr (.inl ⟨by trivial,by trivial⟩)⟩
    ·obtain⟨rfl,rfl⟩:=W8 hq
     simp_all_arith [eJ,eP,qQ,s3,s1,Int.reduceAdd,x2];exact⟨_,_,_,_,rfl,rfl,.inr (.inr ⟨by trivial,by trivial⟩)⟩
    ·cases hq)
   fun φ L' hh=>by
    obtain⟨done,o6,o7,o8,rfl,rfl,hh⟩:=hh;rcases hh with⟨hq,_⟩|⟨hq,_⟩|⟨_,rfl⟩
    ·cases hq
    ·cases hq
    ·exact⟨sv,_,_,_,_,rfl⟩
  obtain⟨o2,o6,o7,o8,rfl⟩:=h;simp_arith;refine(Ib (aq pG) ?_ ?_ ?_).trans rfl
  ·exact aq (g:=T.str) (l:=[oN a b 0,oN a b 1,oN a b 2,oN a b 3]) fun _ _=>rfl
  ·exact aq (g:=T.str) (l:=[nameOf a b 4,nameOf a b 5]) fun _ _=>rfl
  ·exact aq (g:=xT) (l:=[r1,r2]) Lc
theorem jc:∀(st:bc) (n:Cs),dG (st.map fun p=>(T.str p.1,T.str p.2)) (.str n)=(kj st n).map .str
 | [],n=>rfl
 | (a,b)::st,n=>by
  rw [Vg,jb,jc st n];unfold kj;rw [Wv];by_cases h:a=n
  ·rw [if_pos (by rw [h]),decide_eq_true h];rfl
  ·rw [if_neg (fun e=>h (T.str.inj e)),decide_eq_false h]
theorem lO (st:bc) (n:Cs):dR (st.map fun p=>(T.str p.1,T.str p.2)) (.str n):=wW (g:=fun p:Cs × Cs=>p.1) (h:=fun p=>T.str p.2) st n
theorem E1 (st:bc) (n:Cs) (L:aa):je (.aU (st.map fun p=>(T.str p.1,T.str p.2))) [.str n,.str n] L=.ok (.str (af st n)) L:=by
 unfold je vw;simp only [];rw [au (lO st n),jc];unfold af;cases kj st n <;> rfl
theorem LW {st:bc} {m:Nat} {n:Cs} {L:aa} (h:at_ L m=some (aW st)):je (.ref m) [.str n,.str n] L=.ok (.str (af st n)) L:=by
 have:=E1 st n L;unfold je at this ⊢;rw [iK,h];exact this
noncomputable def jF (L:aa) (x:T) (st:bc):Prop:=x=aW st\/∃n,x=.ref n/\at_ L n=some (aW st)
theorem mB {L:aa} {x:T} {st:bc} (h:jF L x st) {a:SE} {ms:List SE} {φ:Fr} {n:Cs} (ha:a φ L=.ok x L) (hm:iS ms φ L=.ok [.str n,.str n] L):aN bS a ms φ L=.ok (.str (af st n)) L:=by
 unfold aN;rw [ha,aI];rcases h with rfl|⟨m,rfl,h⟩
 ·simp only [Ee,vw,aW,Xl,bS,hm,aI,E1]
 ·simp only [Ee,iK,h,eG,aW,Xl,bS,hm,aI]
  exact LW h
theorem pU {L:aa} {x:T} {st:bc} (h:jF L x st) (f:Fc) (hf:f.as.length<=1000):bB [x,fT f] L=.ok (fT (wr st f)) L:=by
 unfold bB;simp_arith;rw [aS rfl f.as T.str (fun n=>.str (af st n)) (by exact rfl) (by exact ai) (by unfold lim;omega) (by exact fun b _=>mB h rfl rfl)];simp_arith;rw [show((f.as.map fun n=>T.str (af st n)))=(f.as.map (af st)).map .str by simp];exact fin_same (bg _ (wr st f))
theorem DR {L:aa} {x:T} {st:bc} (h:jF L x st) (f:Fc) (hf:f.as.length<=1000):dK [fT f,x] L=.ok (fT (wr st f)) L:=by
 unfold dK;simp_arith;rw [aS rfl f.as T.str (fun n=>.str (af st n)) (by exact rfl) (by exact ai) (by unfold lim;omega) (by exact fun b _=>mB h rfl rfl)];simp_arith;rw [show((f.as.map fun n=>T.str (af st n)))=(f.as.map (af st)).map .str by simp];exact fin_same (bg _ (wr st f))
theorem w6 {L:aa} {x:T} {st:bc} (h:jF L x st) (p:Cs × Cs):cx [x,pT p] L=.ok (pT (af st p.1,af st p.2)) L:=by
 unfold cx;simp only [lX,Vb,VH,YF,if_true,gY,qH,wH,EH,nN,nM,Vg,V7,WS,VP];rw [mB (n:=p.1) h rfl rfl];simp only [aI];rw [mB (n:=p.2) h rfl rfl];simp_arith;exact fin_same (fy _ (af st p.1,af st p.2))
theorem w7 (st:bc) (n v:Cs):dput (st.map fun p=>(T.str p.1,T.str p.2)) (.str n) (.str v)=(if n∈st.map (·.1) then st.map (fun e=>if e.1=n then (e.1,v) else e) else st++[(n,v)]).map fun p=>(T.str p.1,T.str p.2):=by
 by_cases h:n∈st.map (·.1)
 ·obtain⟨e,he,rfl⟩:=U6.mp h
  rw [if_pos h];unfold dput;rw [if_pos (WK.mpr ⟨(.str e.1,.str e.2),U6.mpr ⟨e,he,rfl⟩,by simp⟩),Vv,Vv];refine VE fun p hp=>?_
  simp only [Wz];by_cases z:p.1=e.1
  ·rw [if_pos (by rw [z]),if_pos z]
  ·rw [if_neg (fun q=>z (T.str.inj q)),if_neg z]
 ·rw [if_neg h,fm]
  ·simp
  ·intro p hp
   obtain⟨y,hy,rfl⟩:=U6.mp hp;exact fun e=>h (by rw [<- T.str.inj e];exact Vo hy)
theorem Ic {st:bc} {n:Cs} {L:aa} (hl:st.length<lim) (hg:great n=true):∃t,yp (.ref L.length) [.str n,.str n] (aW st::L)=.ok t (aW (g6 st n)::L):=by
 unfold yp;simp only [cR,aW];rw [au ⟨by simpa using hl,lO st n⟩,jc];cases e:kj st n with
 | some v =>
  refine⟨.str v,?_⟩;have hm:n∈st.map (·.1):=by
   unfold kj at e;obtain⟨p,hp,_⟩:=Vj.mp e;have:=List.find?_some hp
   exact U6.mpr ⟨p,Xu hp,by simpa using this⟩
  unfold g6;rw [if_pos hg,if_pos hm];rfl
 | none =>
  refine⟨.str n,?_⟩;have hm:n∉st.map (·.1):=fun h=>by
   obtain⟨p,hp,rfl⟩:=U6.mp h;unfold kj at e;have:=WD.mp (aau.mp e) p hp
   simp at this
  unfold g6;rw [if_pos hg,if_neg hm];simp only [Option.map_none];rw [w7,if_neg hm,u7]
theorem tJ (st:bc) (n:Cs):(g6 st n).length<=st.length+1:=by unfold g6;split <;> (try split) <;> simp
theorem mU (ns:List Cs):∀st:bc,(iu st ns).length<=st.length+ns.length:=by
 induction ns with
 | nil=>intro st;simp [iu]
 | cons n ns ih =>
  intro st;have h1:=ih (g6 st n)
  have h2:=tJ st n;have:iu st (n::ns)=iu (g6 st n) ns:=rfl
  rw [this,Vb];omega
theorem Bg (st:bc) (ns:List Cs) (x:T) (hx:items x (aW st::L)=some (ns.map .str)) (hv:∀k,x≠.ref k) (hn:∀n∈ns,1<=n.length) (hl:st.length+ns.length<1000):nW [.ref L.length,x] (aW st::L)=.ok .b7 (aW (iu st ns)::L):=by
 have hs:src (v 1) [some (.ref L.length),some x,none] (aW st::L)=.ok (ns.map .str,stays x (aW st::L)) (aW st::L):=by
  simp only [AB,Ja,aab,XF,XJ,fh,aI,hx]
 unfold nW;simp only [lX,Vb,VH,YF,if_true,gY,qH,Vg,V7,WS,VP,aac,VI,AD,hs,of_ok];generalize ho:forL _ _ _ _ _ _=o;obtain⟨z,_,rfl⟩:=ta ns T.str aW g6 (fun r s=>s.length+r.length<1000/\∀n∈r,1<=n.length) (fun z (_:Unit)=>[some (.ref L.length),some x,z]) (w:=()) ho (fun _=>Dz hv _) (fun _ _ _=>rfl) ⟨hl,hn⟩ fun n r s _ h=>by
  have h1:=tJ s n;have h2:=h.1
  rw [Vb] at h2;refine⟨⟨by omega,fun m hm=>h.2 m (U5 _ hm)⟩,(),?_⟩;simp_arith [eZ n (h.2 n U4)];cases hg:great n with
  | false=>simp_arith;rw [show g6 s n=s by unfold g6;rw [hg];rfl]
  | true =>
   obtain⟨t,ht⟩:=Ic (L:=L) (st:=s) (n:=n) (by unfold lim;omega) hg;simp only [aW] at ht ⊢;simp_arith [ht]
 simp_arith;exact lM (nU _ _) rfl
theorem oh (a b:Cs):fj a b=decide (a<b):=rfl
theorem Bh (p q:Cs) (hp:1<=p.length) (hq:1<=q.length) (L:aa):kz [.str p,.str q] L=.ok (.str (Un.bj great fj p q)) L:=by
 unfold kz Un.bj;simp_arith [eZ p hp];cases h1:great p with
 | false=>simp_arith
 | true =>
  simp_arith [eZ q hq];cases h2:great q with
  | false=>simp_arith;simp
  | true=>simp_arith [yn,Un.mn,oh,decide_eq_true_eq];simp
theorem pV {k:aa->Prop} {b:SS} {o:O} {L:aa} {st:bc} {ch:Cs} (g:Cs->Bool) (i:Nat) (F:Option T->Fr) (z:Option T) (nd:(st.map (·.1)).Nodup) (hl:st.length<=1000)
  (ho:forL k (.one i) b ((st.map (·.1)).map .str) (F z) (aW st::L)=o) (hk:∀L',k L') (hF:∀z x,(F z).set i (some x)=F (some x))
  (hb:∀(D D':bc) (x:Cs × Cs),ix (.ref L.length) (.str x.1) (aW D::L)=.ok (.str x.2) (aW D::L)->jK (.ref L.length) (.str x.1) (.str ch) (aW D::L)=some (aW D'::L)->b (F (some (.str x.1))) (aW D::L)=.nx (F (some (.str x.1))) (aW (if g x.2=true then D' else D)::L)) :
  ∃z,o=.nx (F z) (aW (st.map fun e=>(e.1,if g e.2=true then ch else e.2))::L):=by
 generalize hG:(fun e:Cs × Cs=>(e.1,if g e.2=true then ch else e.2))=G;have gk:∀l:bc,(l.map G).map (·.1)=l.map (·.1):=fun l=>by rw [Vv,<- hG];rfl
 refine cT ho st (fun e=>T.str e.1) (fun r φ L'=>∃done z,done++r=st/\φ=F z/\L'=aW (done.map G++r)::L) (fun o=>∃z,o=.nx (F z) (aW (st.map G)::L)) (by simp) ⟨[],z,rfl,rfl,rfl⟩ (fun _ _ eJ eP x r φ L' hh=>?_) fun φ L' hh=>?_
 ·obtain⟨done,z,e1,rfl,rfl⟩:=hh
  refine⟨hk _,_,rfl,?_⟩;have nk:((done.map G++x::r).map (·.1)).Nodup:=by
   rw [Vk,gk,<- Vk,e1];exact nd
  have hlen:(done.map G++x::r).length<=1000:=by rw [U3,Lm9,<- U3,e1];exact hl
  rw [Vk,WM,Vg,VW] at nk;have hx:kj (done.map G++x::r) x.1=some x.2:=by
   unfold kj;rw [List.find?_append,WD.mpr,Option.none_or,Wv,decide_eq_true rfl];rfl;exact fun y hy z=>nk.2.2 _ (Vo hy) _ U4 (by simpa using z)
  rw [hF,hb (done.map G++x::r) (done.map G++(x.1,ch)::r) x ?_ ?_,pJ,eJ]
  ·refine⟨done++[x],_,by simpa using e1,rfl,?_⟩
   rw [Vk,Vg,V7,Vw,X4,<- hG];by_cases h:g x.2=true <;> simp only [h,if_true,if_false,Vi]
  ·unfold ix
   simp only [iK,cR,eG,aW];rw [au (lO _ _),jc,hx];rfl
  ·have Q9:∀l:List (Cs × Cs),(∀e∈l,e.1≠x.1)->l.map (fun e=>if e.1=x.1 then (e.1,ch) else e)=l:=fun l h=>by
    conv=>rhs;rw [<- Yr l]
    exact VE fun e he=>by rw [if_neg (h e he)];rfl
   unfold jK aW;simp only [cR];rw [if_pos ⟨by rw [Lm9];unfold lim;omega,lO _ _⟩,w7,if_pos (by simp),u7];congr 4;rw [Vk,Vg,if_pos rfl,Q9 _ fun e he z=>nk.2.2 _ (Vo he) _ U4 z,Q9 r fun e he z=>nk.2.1.1 (by rw [<- z];exact Vo he)]
 ·obtain⟨done,z,e1,rfl,rfl⟩:=hh
  rw [VA] at e1;rw [e1,VA];exact⟨hk _,_,rfl⟩
theorem list_st {st:bc} {L:aa} (hl:st.length<=1000):cF true [.ref L.length] (aW st::L)=.ok (.lst ((st.map (·.1)).map .str)) (aW st::L):=by
 have e:(st.map fun p=>(T.str p.1,T.str p.2)).map (·.1)=(st.map (·.1)).map .str:=by simp
 unfold cF aW;simp only [iK,cR,eG];rw [e,au (by simp [kZ]),eC,au (by simp;unfold lim;omega)];rfl
theorem Ie (st:bc) (a b:Cs) (nd:(st.map (·.1)).Nodup) (hl:st.length<=1000) (hp:1<=(af st a).length) (hq:1<=(af st b).length) (L:aa) :
  fY [.ref L.length,.str a,.str b] (aW st::L)=if cq (af st a) (af st b) then .ok (.bl false) (aW st::L) else .ok (.bl true) (aW (bJ st (af st a) (af st b))::L):=by
 have jN:jF (aW st::L) (.ref L.length) st:=.inr ⟨_,rfl,cR⟩;unfold fY;simp only [lX,Vb,VH,YF,if_true,gY,Vg,V7,WS,VP,aac,VI,sL];rw [mB (n:=a) jN rfl rfl];simp only [of_ok,Tg.set,j9,Zv,Zu,gY,sL];rw [mB (n:=b) jN rfl rfl];generalize af st a=p at *
 generalize af st b=q at *
 simp_arith;by_cases e:p=q
 ·subst e
  rw [if_neg (show ¬ cq p p from fun z=>z.1 rfl),show bJ st p p=st by unfold bJ;rw [if_pos rfl]];simp_arith
 ·simp_arith [show(p == q)=false from beq_eq_false_iff_ne.mpr e,eZ p hp,eZ q hq]
  by_cases ht:cq p q
  ·rw [if_pos ht]
   simp_arith [ht.2.1,ht.2.2]
  ·rw [if_neg ht]
   have hg:(if (!great p)=true then !great q else false)=false:=by
    cases h1:great p with
    | true=>rfl
    | false =>
     cases h2:great q with
     | true=>rfl
     | false=>exact absurd ⟨e,h1,h2⟩ ht
   simp_arith [hg,Bh p q hp hq,list_st hl];generalize oC:Un.bj great fj p q=ch;generalize ho:forL _ _ _ _ _ _=o;obtain⟨z,rfl⟩:=pV (ch:=ch) (fun v=>decide (v∈[p,q])) 6 (fun z=>[some (.ref L.length),some (.str a),some (.str b),some (.str p),some (.str q),some (.str ch),z]) none nd hl ho (fun _=>sv) (fun _ _=>rfl) (fun D D' x EU Ig=>by
    have tW:=Lw (x:=x.2) (ys:=[p,q]) (L:=aW D::L);simp only [Vg,V7] at tW;simp_arith [EU,tW];by_cases hm:x.2∈[p,q]
    ·simp_arith [hm,decide_true,Ig]
    ·simp only [hm,decide_false,Vi,if_false];simp_arith)
   simp_arith;rw [show bJ st p q=st.map fun e=>(e.1,if decide (e.2∈[p,q])=true then ch else e.2) by unfold bJ;rw [if_neg e,<- oC];exact VE fun e _=>by simp [km]];exact lM (nU _ _) rfl
theorem qV {f g:Fc} (h:fT f=fT g):f=g:=by
 have:=congrArg (fun t=>eqT t (fT g)) h;simp only [s9,decide_true,decide_eq_true_eq] at this;exact this
abbrev Wn:=List (Fc × Int)
noncomputable def wD (W:Wn):List (T × T):=W.map fun p=>(fT p.1,.int p.2)
noncomputable def wV (W:Wn) (f:Fc):Int:=((W.find? fun p=>decide (p.1=f)).map (·.2)).getD 0
noncomputable def wS (W:Wn) (f:Fc) (n:Int):Wn:=if f∈W.map (·.1) then W.map (fun p=>if p.1=f then (p.1,n) else p) else W++[(f,n)]
theorem Ih (n:Nat) (l:List Cs):(l.map T.str).all (kd (n+1))=true:=by simp [kd,kZ]
theorem Bi (f:Fc):E7 (fT f)=true:=by
 show(kd 6 (.str f.k) && (kd 6 (.tup (f.as.map .str)) && true))=true;rw [show kd 6 (.tup (f.as.map .str))=(f.as.map T.str).all (kd 5) from rfl,Ih 4];rfl
theorem Bj (W:Wn) (f:Fc):dR (wD W) (fT f):=by
 unfold dR gL wD;rw [XY];refine .inr (U7.mpr fun x hx=>?_);rcases Vn.mp hx with rfl|hx
 ·exact Bi f
 ·obtain⟨p,hp,rfl⟩:=U6.mp hx
  obtain⟨q,_,rfl⟩:=U6.mp hp;exact Bi q.1
theorem vq:∀(W:Wn) (f:Fc),dG (wD W) (fT f)=(W.find? fun p=>decide (p.1=f)).map fun p=>.int p.2
 | [],f=>rfl
 | (a,b)::W,f=>by
  have ih:=vq W f;unfold wD at ih ⊢;rw [Vg,jb,ih,Wv];by_cases h:a=f
  ·rw [if_pos (by rw [h]),decide_eq_true h];rfl
  ·rw [if_neg (fun e=>h (qV e)),decide_eq_false h]
theorem Ii (W:Wn) (f:Fc) (n:Int):dput (wD W) (fT f) (.int n)=wD (wS W f n):=by
 unfold wS;by_cases h:f∈W.map (·.1)
 ·obtain⟨e,he,rfl⟩:=U6.mp h
  rw [if_pos h];unfold dput wD;rw [if_pos (WK.mpr ⟨(fT e.1,.int e.2),U6.mpr ⟨e,he,rfl⟩,by simp⟩),Vv,Vv];refine VE fun p hp=>?_
  simp only [Wz];by_cases z:p.1=e.1
  ·rw [if_pos (by rw [z]),if_pos z]
  ·rw [if_neg (fun q=>z (qV q)),if_neg z]
 ·rw [if_neg h,fm]
  ·simp [wD]
  ·intro p hp
   obtain⟨y,hy,rfl⟩:=U6.mp hp;exact fun e=>h (by rw [<- qV e];exact Vo hy)
theorem LX (W:Wn) (f g:Fc) (n:Int):wV (wS W f n) g=if g=f then n else wV W g:=by
 unfold wV wS;by_cases h:f∈W.map (·.1)
 ·rw [if_pos h]
  induction W with
  | nil=>cases h
  | cons p W ih =>
   rw [Vg,Wv,Wv];by_cases e:p.1=f
   ·rw [if_pos e]
    by_cases q:g=f
    ·rw [if_pos q,decide_eq_true (by rw [e,q])];rfl
    ·rw [if_neg q,decide_eq_false (by rw [e];exact WA q)]
     simp only [];by_cases h':f∈W.map (·.1)
     ·rw [ih h',if_neg q]
     ·rw [show W.map (fun p=>if p.1=f then (p.1,n) else p)=W from ?_]
      conv=>rhs;rw [<- Yr W]
      refine VE fun y hy=>?_
      rw [if_neg (fun z=>h' (by rw [<- z];exact Vo hy))];rfl
   ·rw [if_neg e]
    have h':f∈W.map (·.1):=(Vn.mp h).resolve_left (WA e);by_cases z:p.1=g
    ·rw [decide_eq_true z]
     simp only [];rw [if_neg (fun q=>e (z.trans q))]
    ·rw [decide_eq_false z]
     exact ih h'
 ·rw [if_neg h,List.find?_append]
  by_cases q:g=f
  ·subst q
   rw [WD.mpr]
   ·simp
   ·intro y hy z
    exact h (U6.mpr ⟨y,hy,by simpa using z⟩)
  ·rw [if_neg q]
   cases W.find? fun p=>decide (p.1=g) with
   | some y=>rfl
   | none=>simp [WA q]
theorem vt {W:Wn} {f:Fc} {n:Int}:f∈(wS W f n).map (·.1)/\∀g∈W.map (·.1),g∈(wS W f n).map (·.1):=by
 unfold wS;by_cases h:f∈W.map (·.1)
 ·have e:(W.map fun p=>if p.1=f then (p.1,n) else p).map (·.1)=W.map (·.1):=by
   rw [Vv];refine VE fun p _=>?_
   simp only [Wz];split <;> rfl
  rw [if_pos h,e];exact⟨h,fun _ z=>z⟩
 ·rw [if_neg h]
  exact⟨by simp,fun g hg=>by rw [Vk];exact Va _ hg⟩
theorem Ij {W:Wn} {f:Fc} (h:f∈W.map (·.1)):∃p,W.find? (fun p=>decide (p.1=f))=some p/\p.2=wV W f:=by
 obtain⟨q,hq,rfl⟩:=U6.mp h;unfold wV;cases e:W.find? fun p=>decide (p.1=q.1) with
 | none=>exact absurd (WD.mp e q hq) (by simp)
 | some p=>exact⟨p,rfl,rfl⟩
theorem Bl (W:Wn) (f:Fc) (n:Int):(wS W f n).length<=W.length+1:=by unfold wS;split <;> simp
section
variable {L:aa} {W:Wn} {c:T} {f:Fc}
theorem LY (h:at_ L n=some (.aU (wD W))):je (.ref n) [fT f,.int 0] L=.ok (.int (wV W f)) L:=by
 unfold je;simp only [iK,h,eG];rw [au (Bj W f),vq];unfold wV;cases W.find? fun p=>decide (p.1=f) <;> rfl
theorem LZ (h:at_ L n=some (.aU (wD W))) (hl:W.length<lim) (i:Int):jK (.ref n) (fT f) (.int i) L=some (put L n (.aU (wD (wS W f i)))):=by
 unfold jK;simp only [h];rw [if_pos ⟨by unfold wD;simpa using hl,Bj W f⟩,Ii]
end
theorem Ra {L:aa} {W:Wn} {f:Fc} {n:Nat} (h:at_ L n=some (.aU (wD W))) (hf:f∈W.map (·.1)):ix (.ref n) (fT f) L=.ok (.int (wV W f)) L/\Jl (.ref n) (fT f) L=.ok (.int (wV W f)) L:=by
 obtain⟨p,hp,e⟩:=Ij hf;unfold ix Jl;simp only [iK,h,eG];rw [au (Bj W f),vq,hp,<- e];exact⟨rfl,rfl⟩
theorem L9 (bp ts:List Fc) (hb:bp.length<=1000) (ht:ts.length<=1000) (hs:∀f,ts.count f<=bp.count f) (L:aa):∃left:List Fc,(∀f,left.count f=bp.count f - ts.count f)/\cY [.tup (bp.map fT),.lst (ts.map fT)] L=.ok (.lst (left.map fT)) L:=by
 by_cases h0:ts=[]
 ·subst h0
  refine⟨bp,fun f=>by simp,?_⟩;have Pz:cF true [.tup (bp.map fT)] L=.ok (.lst (bp.map fT)) L:=by
   show eC true (bp.map fT) L=_;rw [eC,au (by simp;unfold lim;omega)];rfl
  unfold cY;simp_arith [show(((([]:List Fc).map fT).length:Int) == 0)=true from rfl,Pz];exact fin_same (aq bg)
 have main:∃left:List Fc,(∀f,left.count f=bp.count f - ts.count f)/\∃W,cY [.tup (bp.map fT),.lst (ts.map fT)] L=fin L (.ref (L.length+1)) (.lst (left.map fT) :: .aU (wD W)::L):=by
  unfold cY;simp_arith [show((ts.length:Int) == 0)=false by simpa using h0];generalize ho:forL _ _ _ _ _ _=o;have h:=cT ho ts fT (fun r φ L'=>∃(done:List Fc) (W:Wn) (o3:Option T),done++r=ts/\(∀f,wV W f=done.count f)/\W.length<=done.length/\(∀f∈done,f∈W.map (·.1))/\φ=[some (.tup (bp.map fT)),some (.lst (ts.map fT)),some (.ref L.length),o3,none]/\L'=.aU (wD W)::L)
   (fun o=>∃(W:Wn) (o3:Option T),(∀f,wV W f=ts.count f)/\W.length<=ts.length/\(∀f∈ts,f∈W.map (·.1))/\o=.nx [some (.tup (bp.map fT)),some (.lst (ts.map fT)),some (.ref L.length),o3,none] (.aU (wD W)::L)) rfl ⟨[],[],none,rfl,fun f=>rfl,Vm _,(by simp),rfl,rfl⟩ (fun _ _ eJ eP f r φ L' hh=>by
    obtain⟨done,W,o3,e1,h1,h2,h3,rfl,rfl⟩:=hh;have hd:done.length<=ts.length:=by rw [<- e1];simp
    refine⟨sv,_,rfl,?_⟩;simp_arith [eJ,eP,LY (f:=f) (W:=W) (L:=.aU (wD W)::L) cR,LZ (f:=f) (W:=W) (L:=.aU (wD W)::L) cR (by unfold lim;omega)];refine⟨done++[f],wS W f (wV W f+1),_,by simpa using e1,fun g=>?_,?_,fun g hg=>?_,rfl,rfl⟩
    ·rw [LX,h1,WV,Y6]
     by_cases z:g=f
     ·subst z;simp [h1]
     ·rw [if_neg z,if_neg (by simpa using WA z),h1];simp
    ·have:=Bl W f (wV W f+1);simp;omega
    ·rcases Vd.mp hg with hg|hg
     ·exact vt.2 g (h3 g hg)
     ·rw [Vx.mp hg];exact vt.1)
   fun φ L' hh=>by
    obtain⟨done,W,o3,e1,h1,h2,h3,rfl,rfl⟩:=hh;rw [VA] at e1;subst e1;exact⟨sv,W,o3,h1,h2,h3,rfl⟩
  obtain⟨W0,o3,Rb,Ug,Uh,rfl⟩:=h;simp_arith;generalize ho:forL _ _ _ _ _ _=o;have h:=cT ho bp fT (fun r φ L'=>∃(done:List Fc) (W:Wn) (left:List Fc) (o3:Option T),done++r=bp/\W.length<=ts.length+done.length/\left.length<=done.length/\(∀f∈ts,f∈W.map (·.1))/\(∀f,0<=wV W f/\(left.count f:Int)+(ts.count f - wV W f)=done.count f/\(0<wV W f->left.count f=0))/\φ=[some (.tup (bp.map fT)),some (.lst (ts.map fT)),some (.ref L.length),o3,some (.ref (L.length+1))]/\L'=.lst (left.map fT) :: .aU (wD W)::L)
   (fun o=>∃(W:Wn) (left:List Fc) (o3:Option T),(∀f∈ts,f∈W.map (·.1))/\(∀f,wV W f=0/\left.count f=bp.count f - ts.count f)/\o=.nx [some (.tup (bp.map fT)),some (.lst (ts.map fT)),some (.ref L.length),o3,some (.ref (L.length+1))] (.lst (left.map fT) :: .aU (wD W)::L)) rfl
   ⟨[],W0,[],o3,rfl,by simpa using Ug,Vm _,Uh,fun f=>⟨by rw [Rb];omega,by rw [Rb];simp,fun _=>rfl⟩,rfl,rfl⟩ (fun _ _ eJ eP f r φ L' hh=>by
    obtain⟨done,W,left,o3,e1,h1,h2,h3,h4,rfl,rfl⟩:=hh;have hd:done.length<=bp.length:=by rw [<- e1];simp
    refine⟨sv,_,rfl,?_⟩;have Jc:at_ (.lst (left.map fT) :: .aU (wD W)::L) L.length=some (.aU (wD W)):=sZ
    simp_arith [eJ,eP,LY (f:=f) Jc];have cd:∀g:Fc,(done++[f]).count g=done.count g+if g=f then 1 else 0:=fun g=>by
     rw [WV,Y6];by_cases z:g=f
     ·subst z;simp
     ·rw [if_neg (by simpa using WA z),if_neg z]
    by_cases hp:0<wV W f
    ·have hmem:f∈W.map (·.1):=by
      refine Decidable.byContradiction fun z=>?_
      have:wV W f=0:=by
       unfold wV;rw [WD.mpr fun p hp q=>z (U6.mpr ⟨p,hp,by simpa using q⟩)];rfl
      omega
     simp_arith [eJ,eP,hp,decide_true,(Ra Jc hmem).2,LZ (f:=f) Jc (by unfold lim;omega)];refine⟨done++[f],wS W f (wV W f - 1),left,_,by simpa using e1,?_,?_,fun g hg=>vt.2 g (h3 g hg),fun g=>?_,rfl,rfl⟩
     ·have:=Bl W f (wV W f - 1);simp;omega
     ·simp;omega
     ·rw [LX,cd]
      obtain⟨a1,a2,a3⟩:=h4 g;by_cases z:g=f
      ·subst z
       rw [if_pos rfl,if_pos rfl];exact⟨by omega,by omega,fun _=>a3 hp⟩
      ·rw [if_neg z,if_neg z]
       exact⟨a1,by omega,a3⟩
    ·simp_arith [eJ,eP,hp,decide_false,au (show left.length<lim by unfold lim;omega),bu]
     refine⟨done++[f],W,left++[f],_,by simpa using e1,?_,by simp;omega,h3,fun g=>?_,rfl,rfl⟩
     ·simp;omega
     ·rw [cd]
      obtain⟨a1,a2,a3⟩:=h4 g;have cl:(left++[f]).count g=left.count g+if g=f then 1 else 0:=by
       rw [WV,Y6];by_cases z:g=f
       ·subst z;simp
       ·rw [if_neg (by simpa using WA z),if_neg z]
      rw [cl];by_cases z:g=f
      ·subst z
       rw [if_pos rfl];exact⟨a1,by omega,fun q=>absurd q hp⟩
      ·rw [if_neg z]
       exact⟨a1,by omega,fun q=>by have:=a3 q;omega⟩)
   fun φ L' hh=>by
    obtain⟨done,W,left,o3,e1,h1,h2,h3,h4,rfl,rfl⟩:=hh;rw [VA] at e1;subst e1;refine⟨sv,W,left,o3,h3,fun f=>?_,rfl⟩;obtain⟨a1,a2,a3⟩:=h4 f;have:=hs f
    by_cases q:0<wV W f
    ·have:=a3 q;omega
    ·omega
  obtain⟨W,left,o3,hm,hw,rfl⟩:=h;simp_arith;generalize ho:forL _ _ _ _ _ _=o;obtain⟨z,rfl⟩:=lJ ts fT (fun z=>[some (.tup (bp.map fT)),some (.lst (ts.map fT)),some (.ref L.length),z,some (.ref (L.length+1))]) ho sv (fun _ _=>rfl) fun f h=>by simp_arith [(Ra (L:=.lst (left.map fT) :: .aU (wD W)::L) sZ (hm f h)).1,(hw f).1,Z4,decide_false]
  simp_arith;exact⟨left,fun f=>(hw f).2,W,rfl⟩
 obtain⟨left,hc,W,e⟩:=main;exact⟨left,hc,e.trans (HS (aq bg))⟩
theorem Ik {x y:T} (hx:kd 8 x=true) (hy:kd 8 y=true) (h:ltN 8 y x=false):x=y\/ltN 8 x y=true:=by
 by_cases e:x=y
 ·exact .inl e
 ·rcases jX 8 _ _ hx hy e with q|q
  ·exact .inr q
  ·rw [h] at q;cases q
theorem tL (x:T) (hx:kd 8 x=true):∀l:List T,(∀y∈l,kd 8 y=true)->fJ l->∃l',l'.Perm (x::l)/\fJ l'
 | [],_,_=>⟨[x],.refl _,by simp [fJ]⟩
 | y::l,hk,hr=>by
  have hy:=hk y U4;have hr':=W4.mp hr
  cases e:ltN 8 y x with
  | false =>
   refine⟨x::y::l,.refl _,W4.mpr ⟨fun z hz=>?_,hr⟩⟩;rcases Vn.mp hz with rfl|hz
   ·exact e
   ·have h1:=hr'.1 z hz
    rcases Ik hx hy e with rfl|q
    ·exact h1
    ·cases e2:ltN 8 z x with
     | false=>rfl
     | true=>rw [dI 8 _ _ _ e2 q] at h1;cases h1
  | true =>
   obtain⟨l',p,r⟩:=tL x hx l (fun z hz=>hk z (U5 _ hz)) hr'.2;refine⟨y::l',(p.cons y).trans (.swap _ _ _),W4.mpr ⟨fun z hz=>?_,r⟩⟩;rcases Vn.mp (p.mem_iff.mp hz) with rfl|hz
   ·cases e2:ltN 8 z y with
    | false=>rfl
    | true=>have:=dI 8 _ _ _ e e2;rw [mJ] at this;cases this
   ·exact hr'.1 z hz
theorem w8:∀l:List T,(∀y∈l,kd 8 y=true)->∃l',l'.Perm l/\fJ l'
 | [],_=>⟨[],.refl _,ZX⟩
 | x::l,h=>by
  obtain⟨l1,p1,r1⟩:=w8 l fun y hy=>h y (U5 _ hy)
  obtain⟨l2,p2,r2⟩:=tL x (h x U4) l1 (fun y hy=>h y (U5 _ (p1.mem_iff.mp hy))) r1;exact⟨l2,p2.trans (p1.cons x),r2⟩
theorem cA {l:List T} (h:∀y∈l,kd 8 y=true):(jZ l).Perm l/\fJ (jZ l):=by
 obtain⟨l',p,r⟩:=w8 l h;rw [qr (U7.mpr h) p r];exact⟨p,r⟩
theorem tM {α:Type} {g:α->T} {l l2:List T} (p:l.Perm l2):∀fs:List α,l2=fs.map g->∃gs:List α,gs.Perm fs/\l=gs.map g:=by
 induction p with
 | nil =>
  intro fs e;cases fs with
  | nil=>exact⟨[],.refl _,rfl⟩
  | cons f fs=>cases e
 | cons x p ih =>
  intro fs e;cases fs with
  | nil=>cases e
  | cons f fs =>
   cases e;obtain⟨gs,q,e⟩:=ih fs rfl;exact⟨f::gs,q.cons f,by rw [e];rfl⟩
 | swap x y l =>
  intro fs e
  match fs,e with
  | a::b::fs,e=>cases e;exact⟨b::a::fs,.swap _ _ _,rfl⟩
 | trans p q N8 N9 =>
  intro fs e;obtain⟨gs,r1,e1⟩:=N9 fs e;obtain⟨hs,r2,e2⟩:=N8 gs e1;exact⟨hs,r2.trans r1,e2⟩
theorem tN (f:Fc):kd 8 (fT f)=true:=by
 show(kd 7 (.str f.k) && (kd 7 (.tup (f.as.map .str)) && true))=true;rw [show kd 7 (.tup (f.as.map .str))=(f.as.map T.str).all (kd 6) from rfl,Ih 5];rfl
theorem Ma (f:Fc):kd 6 (fT f)=true:=by
 show(kd 5 (.str f.k) && (kd 5 (.tup (f.as.map .str)) && true))=true;rw [show kd 5 (.tup (f.as.map .str))=(f.as.map T.str).all (kd 4) from rfl,Ih 3];rfl
theorem Mb (n:Nat):∀a b:List Cs,shl (rY (n+1)) (a.map .str) (b.map .str)=true
 | [],_=>by simp [shl]
 | _::_,[]=>by simp [shl]
 | x::a,y::b=>by rw [Vg,Vg,shl,Mb n a b];rfl
theorem PB (f g:Fc):rY 8 (fT f) (fT g)=true:=by
 show(rY 7 (.str f.k) (.str g.k) && (shl (rY 6) (f.as.map .str) (g.as.map .str) && true))=true;rw [Mb 5];rfl
theorem xR {fs:List Fc} (h:fs.length<64):cJ (fs.map fT) :=
 ⟨by simpa using h,by simp [tN],.inl (by simp [rD,fT]),by simp [PB]⟩
theorem kd_p (p:Cs × Cs):kd 8 (pT p)=true:=rfl
theorem Mc {fs:List (Cs × Cs)} (h:fs.length<64):cJ (fs.map pT) :=
 ⟨by simpa using h,by simp [kd_p],.inl (by simp [rD,pT]),by simp [show ∀a b,rY 8 (pT a) (pT b)=true from fun _ _=>rfl]⟩
theorem w9 (fs:List Fc):∃gs:List Fc,gs.Perm fs/\jZ (fs.map fT)=gs.map fT :=
 tM (cA fun y hy=>by obtain⟨f,_,rfl⟩:=U6.mp hy;exact tN f).1 fs rfl
theorem E2 (fs:List (Cs × Cs)):∃gs:List (Cs × Cs),gs.Perm fs/\jZ (fs.map pT)=gs.map pT :=
 tM (cA fun y hy=>by obtain⟨f,_,rfl⟩:=U6.mp hy;exact kd_p f).1 fs rfl
theorem Il {x:T} {ys:List T} {L:aa} (hx:vw L x=.lst ys) (h:cJ ys) (hl:(jZ ys).length<=lim):iC true [x] L=.ok (.lst (jZ ys)) L:=by
 unfold iC;simp only [hx];unfold cJ at h;rw [au h,eC,au hl];rfl
theorem DS {ys:List T} (h:cJ ys):(jZ ys).length<=lim:=by
 rw [(cA (U7.mp h.2.1)).1.length_eq];have:=h.1;unfold lim;omega
theorem qW {x:T} {ys:List T} {L:aa} (hx:vw L x=.lst ys) (h:cJ ys):iC true [x] L=.ok (.lst (jZ ys)) L:=Il hx h (DS h)
theorem E3 (fs:List Fc):∃gs:List Fc,gs.Nodup/\(∀f,f∈gs↔f∈fs)/\gs.length<=fs.length/\rZ (fs.map fT)=gs.map fT:=by
 induction fs with
 | nil=>exact⟨[],Xt,fun _=>Iff.rfl,Vm _,rfl⟩
 | cons f fs ih =>
  obtain⟨gs,h1,h2,h3,h4⟩:=ih;rw [Vg,rZ];by_cases h:f∈fs
  ·rw [if_pos (Vo h)]
   exact⟨gs,h1,fun g=>by rw [h2,Vn];exact⟨.inr,fun z=>z.elim (fun e=>by rw [e];exact h) id⟩,by simp;omega,h4⟩
  ·rw [if_neg fun z=>by obtain⟨g,hg,e⟩:=U6.mp z;exact h (by rw [<- qV e];exact hg)]
   exact⟨f::gs,VW.mpr ⟨fun z=>h ((h2 f).mp z),h1⟩,fun g=>by rw [Vn,Vn,h2],by simp;omega,by rw [h4];rfl⟩
theorem DT (fs:List Fc) (h:fs.length<64) (L:aa):∃gs:List Fc,gs.Nodup/\(∀f,f∈gs↔f∈fs)/\jZ (rZ (fs.map fT))=gs.map fT/\nz true [.lst (fs.map fT)] L=.ok (.lst (gs.map fT)) L:=by
 refine oz fun G n9=>?_
 obtain⟨g1,a1,a2,a3,a4⟩:=E3 fs;obtain⟨g2,b1,b2⟩:=w9 g1;refine n9 ?_;clear n9;refine⟨g2,b1.nodup_iff.mpr a1,fun f=>(b1.mem_iff).trans (a2 f),by rw [a4];exact b2,?_⟩;show b8 _ _=_
 rw [au ⟨xR h,by simp [Ma],U7.mpr fun x hx=>by obtain⟨f,_,rfl⟩:=U6.mp hx;rfl⟩,a4,b2,eC,au (by rw [Lm9,b1.length_eq];unfold lim;omega)];rfl
theorem DU (st:bc) (h:st.length<64) (L:aa):∃gs:List (Cs × Cs),gs.Perm st/\jZ (st.map pT)=gs.map pT/\ly true [.ref L.length] (aW st::L)=.ok (.lst (gs.map pT)) (aW st::L):=by
 obtain⟨gs,b1,b2⟩:=E2 st;refine⟨gs,b1,b2,?_⟩;have e:prs (st.map fun p=>(T.str p.1,T.str p.2))=st.map pT:=by unfold prs;rw [Vv];rfl
 unfold ly aW;simp only [iK,cR,eG];rw [e,au (Mc h),b2,eC,au (by rw [Lm9,b1.length_eq];unfold lim;omega)];rfl
theorem Io {st:bc} {n:Cs} (h:(st.map (·.1)).Nodup):((g6 st n).map (·.1)).Nodup:=by
 unfold g6;split
 ·split
  ·exact h
  ·rename_i hn
   rw [Vk,WM];exact⟨h,by simp,fun a ha b hb e=>hn (by simp at hb;rw [<- hb,<- e];exact ha)⟩
 ·exact h
theorem Bm:∀(ns:List Cs) {st:bc},(st.map (·.1)).Nodup->((iu st ns).map (·.1)).Nodup
 | [],_,h=>h
 | n::ns,_,h=>Bm ns (Io h)
theorem DV {st:bc} {p q:Cs} (h:(st.map (·.1)).Nodup):((bJ st p q).map (·.1)).Nodup:=by
 unfold bJ;split
 ·exact h
 ·rw [Bk.jB];exact h
theorem Ip {st:bc} {n:Cs} (h:jI st) (hn:cO n):jI (g6 st n):=by
 unfold g6;split
 ·split
  ·exact h
  ·intro e he
   rcases Vd.mp he with he|he
   ·exact h e he
   ·rw [Vx.mp he];exact⟨hn,hn⟩
 ·exact h
theorem Bn:∀(ns:List Cs) {st:bc},jI st->(∀n∈ns,cO n)->jI (iu st ns)
 | [],_,h,_=>h
 | n::ns,_,h,hn=>Bn ns (Ip h (hn n U4)) fun m hm=>hn m (U5 _ hm)
theorem kJ (st:bc) (p q:Cs):(bJ st p q).length=st.length:=by unfold bJ;split <;> simp
theorem Bo:∀(prs:List (Cs × Cs)) {st bz:bc},aJ st prs=some bz->bz.length<=st.length+2 * prs.length
 | [],st,bz,h=>by cases h;simp
 | (a,b)::r,st,bz,h=>by
  unfold aJ at h;split at h
  ·cases h
  ·have:=Bo r h
   rw [kJ] at this;have z:=mU [a,b] st
   simp at z ⊢;omega
noncomputable def aM (bp bl:List Fc) (st:bc):T:=.tup [.tup (bp.map fT),.tup (bl.map fT),.tup (st.map pT),.bl false]
theorem jG {st:bc} {x:T} {L:aa} (hx:jF L x st) {fs:List Fc} (hf:∀f∈fs,f.as.length<=1000) (hl:fs.length<=1000) {s:SI} {aY:List (Option Nat)} {φ:Fr} {k:aa->Prop} {r:R T} (hc:comp true s aY (.one 1) yes (ae bB [v 2,v 1]) φ L=r) (hs:s φ L=.ok (fs.map fT,k) L) (hk:k L)
  (h1:∀y,((inner aY φ).set 1 (some y))[1]?=some (some y)) (h2:∀y,((inner aY φ).set 1 (some y))[2]?=some (some x)):r=.ok (.lst ((fs.map (wr st)).map fT)) L:=by
 rw [aS hc fs fT (fun f=>fT (wr st f)) hs hk (by unfold lim;omega) fun f MS=>by
  simp only [AA,nN,nM,Ja,h1,h2,XJ,fh,aI];exact pU hx f (hf f MS),Vv]
 rfl
noncomputable def eB (ks:List Kd) (fs:List Fc):List Fc:=fs.filter fun f=>!decide (f.k∈(ks.filter (·.l)).map (·.n))
noncomputable def fN (ks:List Kd) (fs:List Fc):List Fc:=fs.filter fun f=>decide (f.k∈(ks.filter (·.l)).map (·.n))
structure Mv (ks:List Kd) (bp bl:List Fc) (st:bc) (ts fs:List Fc) (prs:List (Cs × Cs)):Prop where
 hn:(ks.map (·.n)).Nodup
 hk:ks.length<=100
 ft:∀f∈ts,aO ks f
 ff:∀f∈fs,aO ks f
 tl:∀f∈ts,f.k∉(ks.filter (·.l)).map (·.n)
 nd:(st.map (·.1)).Nodup
 sm:jI st
 Ui:st.length<=10
 z1:bp.length+fs.length<64
 z2:bl.length+fs.length<64
 z3:ts.length<=10
 z4:fs.length<=4
 z5:prs.length<=4
 a4:∀f∈(bp++bl)++(ts++fs),f.as.length<=4
 nf:∀f∈fs,∀a∈f.as,cO a
 np:∀p∈prs,cO p.1/\cO p.2
 cnt:∀f,(ts.map (wr st)).count f<=bp.count f
noncomputable def l9 (ks:List Kd) (bp bl:List Fc) (st:bc) (ts fs:List Fc) (prs:List (Cs × Cs)) (r:T):Prop :=
 (aJ (iu st (fs.flatMap (·.as))) prs=none/\r=aP) \/
 ∃bz left P Q S,aJ (iu st (fs.flatMap (·.as))) prs=some bz/\(∀f,left.count f=bp.count f - (ts.map (wr st)).count f)/\P.Perm (lw prs bz left++eB ks (fs.map (wr bz)))/\jZ ((lw prs bz left++eB ks (fs.map (wr bz))).map fT)=P.map fT /\
  Q.Nodup/\(∀f,f∈Q↔f∈lw prs bz bl++fN ks (fs.map (wr bz)))/\jZ (rZ ((lw prs bz bl++fN ks (fs.map (wr bz))).map fT))=Q.map fT/\S.Perm bz/\jZ (bz.map pT)=S.map pT/\r=aM P Q S
theorem Me {l:List Fc} (h:∀g∈l,g.as.length<=4):(l.flatMap (·.as)).length<=4 * l.length:=by
 induction l with
 | nil=>exact Vm _
 | cons a l ih =>
  have h1:=h a U4;have h2:=ih fun g hg=>h g (U5 _ hg)
  rw [YQ,U3,Vb];omega
theorem Bp {prs:List (Cs × Cs)} {st:bc} {l:List Fc}:(lw prs st l).length=l.length:=by
 unfold lw;split
 ·rfl
 ·rw [Lm9]
theorem DW (ks:List Kd) (bp bl:List Fc) (st:bc) (ts fs:List Fc) (prs:List (Cs × Cs)) (M:Mv ks bp bl st ts fs prs) (L:aa) :
  ∃r,l9 ks bp bl st ts fs prs r/\mQ [.lst (ks.map kT),aM bp bl st,.lst (ts.map fT),.lst (fs.map fT),.lst (prs.map pT)] L=.ok r L:=by
 have hk':=M.hk;have h3:=M.z3
 have h4:=M.z4;have h5:=M.z5
 have Bq:=M.Ui;have aB:∀f∈bp,f.as.length<=4:=fun f hf=>M.a4 f (Va _ (Va _ hf))
 have aL:∀f∈bl,f.as.length<=4:=fun f hf=>M.a4 f (Va _ (Vh _ hf))
 have aT:∀f∈ts,f.as.length<=4:=fun f hf=>M.a4 f (Vh _ (Va _ hf))
 have aF:∀f∈fs,f.as.length<=4:=fun f hf=>M.a4 f (Vh _ (Vh _ hf))
 have z1:=M.z1;have z2:=M.z2
 unfold mQ aM;simp_arith [gq ks ts (.lst (ks.map kT)) L rfl M.hn (by omega) M.ft,gq ks fs (.lst (ks.map kT)) L rfl M.hn (by omega) M.ff];rw [dm rfl ks kT (·.l) (fun k=>.str k.n) (by exact rfl) (by exact ai) (by unfold lim;omega) (by exact fun b _=>by simp_arith) (by exact fun b _ _=>by simp_arith)];have DL:((ks.filter (·.l)).map fun k=>T.str k.n)=((ks.filter (·.l)).map (·.n)).map T.str:=by simp
 have hd:ic [.tup (st.map pT)] L=.ok (.ref L.length) (aW st::L):=n8 (g:=fun p:Cs × Cs=>p.1) (h:=fun p=>.str p.2) st M.nd (by omega) L;simp_arith [DL,jr _ ts M.tl,hd];rw [jG (fs:=ts) (st:=st) (x:=.ref L.length) (.inr ⟨_,rfl,cR⟩) (fun f hf=>Vt (aT f hf) (by decide)) (by omega) rfl (by exact rfl) (by exact ai) (by exact fun _=>rfl) (by exact fun _=>rfl)];obtain⟨left,PC,ho⟩:=L9 bp (ts.map (wr st)) (by omega) (by rw [Lm9];omega) M.cnt (aW st::L);have UW:left.length<=bp.length:=Bk.lG left bp fun f=>by rw [PC];exact Nat.sub_le _ _
 have hle:∀f∈left,f.as.length<=4:=fun f hf=>aB f (Bk.wM PC hf)
 simp_arith [ho];generalize ho:forL _ _ _ _ _ _=o;obtain⟨o7,_,rfl⟩:=ta fs fT aW (fun st f=>iu st f.as) (fun r s=>s.length+4 * r.length<=26/\∀f∈r,f∈fs) (fun z (_:Unit)=>[some (.lst (ks.map kT)),some (.tup [.tup (bp.map fT),.tup (bl.map fT),.tup (st.map pT),.bl false]),some (.lst (ts.map fT)),some (.lst (fs.map fT)),some (.lst (prs.map pT)),some (.lst (((ks.filter (·.l)).map (·.n)).map T.str)),some (.ref L.length),z,some (.lst (left.map fT)),none,none,none,none]) (w:=()) ho (fun _=>sv) (fun _ _ _=>rfl) ⟨by omega,fun _ h=>h⟩ fun f r s _ h=>by
  have MS:=h.2 f U4;have h1:=mU f.as s
  have h2:=h.1;have h3:=aF f MS
  rw [Vb] at h2;exact⟨⟨by omega,fun g hg=>h.2 g (U5 _ hg)⟩,(),by simp_arith [Bg (L:=L) s f.as (.tup (f.as.map .str)) rfl (fun _ z=>by cases z) (fun n hn=>(dF (M.nf f MS n hn)).1) (by omega)]⟩
 rw [show fs.foldl (fun st f=>iu st f.as) st=iu st (fs.flatMap (·.as)) from List.foldl_flatMap.symm];have hz:=Me aF
 have MD:=mU (fs.flatMap (·.as)) st;have n0:=Bm (fs.flatMap (·.as)) M.nd
 have m0:=Bn (fs.flatMap (·.as)) M.sm fun n hn=>by obtain⟨f,hf,h⟩:=Yo.mp hn;exact M.nf f hf n h
 unfold l9;generalize iu st (fs.flatMap (·.as))=S0 at *
 simp_arith;generalize ho:forL _ _ _ _ _ _=o;have h:=cT ho prs pT (fun q φ L'=>∃done eD o9,done++q=prs/\aJ eD q=aJ S0 prs/\(eD.map (·.1)).Nodup/\jI eD/\eD.length<=26+2 * done.length/\φ=[some (.lst (ks.map kT)),some (.tup [.tup (bp.map fT),.tup (bl.map fT),.tup (st.map pT),.bl false]),some (.lst (ts.map fT)),some (.lst (fs.map fT)),some (.lst (prs.map pT)),some (.lst (((ks.filter (·.l)).map (·.n)).map T.str)),some (.ref L.length),o7,some (.lst (left.map fT)),o9,none,none,none]/\L'=aW eD::L)
  (fun o=>(aJ S0 prs=none/\∃c,o=.rt aP (c::L))\/∃bz o9,aJ S0 prs=some bz/\(bz.map (·.1)).Nodup/\jI bz/\bz.length<=40/\o=.nx [some (.lst (ks.map kT)),some (.tup [.tup (bp.map fT),.tup (bl.map fT),.tup (st.map pT),.bl false]),some (.lst (ts.map fT)),some (.lst (fs.map fT)),some (.lst (prs.map pT)),some (.lst (((ks.filter (·.l)).map (·.n)).map T.str)),some (.ref L.length),o7,some (.lst (left.map fT)),o9,none,none,none] (aW bz::L)) rfl ⟨[],S0,none,rfl,rfl,n0,m0,by omega,rfl,rfl⟩ (fun _ _ eJ eP p q φ L' hh=>by
   obtain⟨done,eD,o9,e1,e2,n1,m1,l1,rfl,rfl⟩:=hh;obtain⟨pa,pb⟩:=p;refine⟨sv,_,rfl,?_⟩;have hp:=M.np (pa,pb) (e1 ▸ Vh _ U4)
   have hd:done.length+1<=prs.length:=by rw [<- e1,U3,Vb];omega
   have n2:=Bm [pa,pb] n1;have m2:=Bn [pa,pb] m1 fun n hn=>all2 (P:=cO) hp.1 hp.2 hn
   have l2:=mU [pa,pb] eD;simp only [Vb,VH] at l2;have k1:=Bg (L:=L) eD [pa,pb] (pT (pa,pb)) rfl (fun _ z=>by cases z) (fun n hn=>all2 (P:=fun n=>1<=n.length) (dF hp.1).1 (dF hp.2).1 hn) (by simp only [Vb,VH];omega)
   have k2:=Ie (iu eD [pa,pb]) pa pb n2 (by omega) (dF (m2.af hp.1)).1 (dF (m2.af hp.2)).1 L;have e3:aJ eD ((pa,pb)::q)=if cq (af (iu eD [pa,pb]) pa) (af (iu eD [pa,pb]) pb) then none else aJ (bJ (iu eD [pa,pb]) (af (iu eD [pa,pb]) pa) (af (iu eD [pa,pb]) pb)) q:=rfl
   rw [e3] at e2;by_cases ht:cq (af (iu eD [pa,pb]) pa) (af (iu eD [pa,pb]) pb)
   ·rw [if_pos ht] at k2 e2
    simp_arith [eJ,eP,k1,k2];exact .inl ⟨e2.symm,_,rfl⟩
   ·rw [if_neg ht] at k2 e2
    simp_arith [eJ,eP,k1,k2];exact⟨done++[(pa,pb)],_,_,by rw [Vw];exact e1,e2,DV n2,m2.tell (m2.af hp.1) (m2.af hp.2),by rw [kJ,U3,V6];omega,rfl,rfl⟩)
  fun φ L' hh=>by
   obtain⟨done,eD,o9,e1,e2,n1,m1,l1,rfl,rfl⟩:=hh;rw [VA] at e1;subst e1;exact⟨sv,.inr ⟨eD,o9,e2.symm,n1,m1,by omega,rfl⟩⟩
 rcases h with⟨hN,c,rfl⟩|⟨bz,o9,hS,n2,m2,l2,rfl⟩
 ·simp_arith
  exact⟨aP,.inl ⟨hN,rfl⟩,fA rfl⟩
 have Pz:cF true [.tup (bl.map fT)] (aW bz::L)=.ok (.lst (bl.map fT)) (aW bz::L):=by
  show eC true (bl.map fT) _=_;rw [eC,au (by simp;unfold lim;omega)];rfl
 have jN:jF (aW bz::L) (.ref L.length) bz:=.inr ⟨_,rfl,cR⟩;refine oz fun G n9=>?_
 obtain⟨tQ,kY⟩:∃x,x=lw prs bz left:=⟨_,rfl⟩;obtain⟨PD,yF⟩:∃x,x=lw prs bz bl:=⟨_,rfl⟩;have w1:tQ.length=left.length:=kY ▸ Bp
 have w2:PD.length=bl.length:=yF ▸ Bp;have UX:=dE (p:=fun f:Fc=>!decide (f.k∈(ks.filter (·.l)).map (·.n))) (l:=fs.map (wr bz)) (n:=fs.length) (by simp)
 have UY:=dE (p:=fun f:Fc=>decide (f.k∈(ks.filter (·.l)).map (·.n))) (l:=fs.map (wr bz)) (n:=fs.length) (by simp);obtain⟨P,DX,Iq⟩:=w9 (tQ++eB ks (fs.map (wr bz)));obtain⟨Q,MT,Ir,Uj,Rc⟩:=DT (PD++fN ks (fs.map (wr bz))) (by rw [U3];unfold fN;omega) (aW bz::L);obtain⟨S,hS1,hS2,Uk⟩:=DU bz (by omega) L;have Rd:iC true [.lst ((tQ++eB ks (fs.map (wr bz))).map fT)] (aW bz::L)=.ok (.lst (P.map fT)) (aW bz::L):=by
  rw [qW (ys:=(tQ++eB ks (fs.map (wr bz))).map fT) rfl (xR (by rw [U3];unfold eB;omega)),Iq]
 refine n9 ?_;clear n9;refine⟨aM P Q S,.inr ⟨bz,left,P,Q,S,hS,PC,kY ▸ DX,kY ▸ Iq,MT,yF ▸ Ir,yF ▸ Uj,hS1,hS2,rfl⟩,?_⟩;have fin:fin L (aM P Q S) (aW bz::L)=.ok (aM P Q S) L:=fA (by unfold aM;rw [lt,cb,cb,cb,cb,cb,b6 bg,b6 bg,b6 fy];rfl)
 simp_arith [Pz];apply twice
 ·intro key
  by_cases Je:prs=[]
  ·have e1:lw prs bz left=left:=if_pos Je
   have e2:lw prs bz bl=bl:=if_pos Je;simp_arith [show decide ((0:Int)<(prs.length:Int))=false by rw [Je];rfl];rw [show T.lst (left.map fT)=.lst (tQ.map fT) by rw [kY,e1],show T.lst (bl.map fT)=.lst (PD.map fT) by rw [yF,e2]];exact key
  ·have e1:lw prs bz left=left.map (wr bz):=if_neg Je
   have e2:lw prs bz bl=bl.map (wr bz):=if_neg Je;have hpl:(0:Int)<(prs.length:Int):=by
    have:=Zf.mpr Je;omega
   simp_arith [hpl,decide_true];rw [jG (fs:=left) jN (fun f hf=>Vt (hle f hf) (by decide)) (by omega) rfl (by exact rfl) (by exact sv) (by exact fun _=>rfl) (by exact fun _=>rfl)];simp_arith;rw [jG (fs:=bl) jN (fun f hf=>Vt (aL f hf) (by decide)) (by omega) rfl (by exact rfl) (by exact sv) (by exact fun _=>rfl) (by exact fun _=>rfl)];simp_arith;rw [<- e1,<- e2,<- kY,<- yF];exact key
 rw [jG (fs:=fs) jN (fun f hf=>Vt (aF f hf) (by decide)) (by omega) rfl (by exact rfl) (by exact sv) (by exact fun _=>rfl) (by exact fun _=>rfl)];simp_arith;rw [dm rfl (fs.map (wr bz)) fT (fun f=>!decide (f.k∈(ks.filter (·.l)).map (·.n))) fT (by exact rfl) (by exact sv) (by simp;unfold lim;omega) (by exact fun b _=>by simp_arith) (by exact fun b _ _=>by simp_arith)];simp_all_arith [<- Vk];rw [dm rfl (fs.map (wr bz)) fT (fun f=>decide (f.k∈(ks.filter (·.l)).map (·.n))) fT (by exact rfl) (by exact sv) (by simp;unfold lim;omega) (by exact fun b _=>by simp_arith) (by exact fun b _ _=>by simp_arith)];simp_all_arith [<- Vk];unfold eB at Rd;unfold fN at Rc;simp_arith [Rd,Rc,Uk];exact fin
theorem PF {α β:Type} {g:α->T} {h:β->T} (a:List α) (b:List β):zp (a.map g) (b.map h)=(a.zip b).map fun p=>.tup [g p.1,h p.2]:=by
 unfold zp;rw [List.zip_map,Vv];rfl
theorem Br {α β:Type} {a:List α} {b:List β} (h:a.length<=b.length):(a.zip b).map (·.1)=a:=by
 induction a generalizing b with
 | nil=>rfl
 | cons x a ih =>
  cases b with
  | nil=>simp at h
  | cons y b=>rw [Wq,Vg,ih (by simpa using h)]
theorem PH {α:Type} {h:α->T} {x y:T} {ns:List Cs} {vs:List α} {L:aa} (hx:vw L x=.lst (ns.map .str)) (hy:vw L y=.lst (vs.map h)\/vw L y=.tup (vs.map h)) (hn:ns.Nodup) (hl:ns.length<=vs.length) (h1:ns.length<=1000):ij [x,y] L=.ok (.ref L.length) (.aU ((ns.zip vs).map fun p=>(.str p.1,h p.2))::L):=by
 have e:ij [x,y] L=yq (zp (ns.map .str) (vs.map h)) L:=by
  unfold ij;rcases hy with hy|hy
  ·simp only [hx,hy]
   exact au (by simpa using hl)
  ·simp only [hx,hy]
   exact au (by simpa using hl)
 rw [e,PF];exact n8 (g:=fun p:Cs × α=>p.1) (h:=fun p=>h p.2) (ns.zip vs) (by rw [Br hl];exact hn) (by rw [List.length_zip];omega) L
theorem vz {x y:T} {ns vs:List Cs} {L:aa} (hx:vw L x=.lst (ns.map .str)) (hy:vw L y=.lst (vs.map .str)\/vw L y=.tup (vs.map .str)) (hn:ns.Nodup) (hl:ns.length<=vs.length) (h1:ns.length<=1000):ij [x,y] L=.ok (.ref L.length) (aW (ns.zip vs)::L):=PH hx hy hn hl h1
noncomputable def stepT (i:Nat) (vs:List Cs):T:=.tup [.int (i:Nat),.tup (vs.map .str)]
theorem Bs {rs:List Rl} {i:Nat} {r:Rl} (h:rs[i]?=some r) (L:aa):ix (.lst (rs.map aR)) (.int (i:Nat)) L=.ok (aR r) L:=cK (by rw [Vs,h];rfl)
theorem kL (ks:List Kd) (rs:List Rl) (i:Nat) (vs:List Cs) (r:Rl) (hr:rs[i]?=some r) (hv:vs.length=(opens (r.take++r.keep)).length) (L:aa):eS [jD ks rs,stepT i vs] L=.ok .b7 L:=by
 have hi:=(Vl.mp hr).1;unfold eS stepT;simp_arith [show ¬ ((i:Nat):Int)<0 by omega,decide_false,show ¬ (rs.length:Int)<=(i:Nat) by omega,Bs hr,show((vs.length:Int) != ((opens (r.take++r.keep)).length:Int))=false by simp [hv]]
theorem Bt {f:Str->Option Fn} {a:SE} {ms:List SE} {φ:Fr} {L:aa} {k:Lk} (ha:a φ L=.ok (lT k) L) (h1:f "Same"=some cE) (h2:f "Unlike"=some bK):pX "holds" f a ms φ L=(iS ms φ L).bind fun ts L2=>(if k.same=true then cE else bK) (lT k::ts) L2:=by
 unfold pX;rw [ha,aI];cases hs:k.same with
 | true =>
  have e:vw L (lT k)=.obj "Same" [("left",.str k.l),("right",.str k.r)]:=by unfold lT;rw [hs];rfl
  rw [e];simp only [h1];rfl
 | false =>
  have e:vw L (lT k)=.obj "Unlike" [("left",.str k.l),("right",.str k.r)]:=by unfold lT;rw [hs];rfl
  rw [e];simp only [h2];rfl
theorem DY (k:Lk) (a b:Cs) (ha:1<=a.length) (hb:1<=b.length) (L:aa):(if k.same=true then cE else bK) [lT k,.str a,.str b] L=.ok (.bl (jC k.same a b)) L:=by
 cases hs:k.same with
 | true =>
  rw [if_pos rfl];unfold cE jC;simp_arith;rw [show(a == b)=decide (a=b) by by_cases h:a=b <;> simp [h]]
 | false =>
  rw [if_neg (by simp)];unfold bK jC;simp_arith [eZ a ha,eZ b hb,if_false];cases great a <;> cases great b <;> simp_arith;rw [show(a == b)=decide (a=b) by by_cases h:a=b <;> simp [h]]
theorem Iu {α:Type} {p:α->Bool} (l:List α) (L:aa):rH [.lst (l.map fun x=>.bl (p x))] L=.ok (.bl (l.all p)) L:=by
 have:=mapM_map (f:=IJ) (g:=fun x=>T.bl (p x)) (h:=p) (fun _=>rfl) l;simp [rH,Fe,vw,this,lift,aaw,Wz]
theorem Bu {α:Type} {p:α->Bool} (l:List α) (L:aa):xi [.lst (l.map fun x=>.bl (p x))] L=.ok (.bl (l.any p)) L:=by
 have:=mapM_map (f:=IJ) (g:=fun x=>T.bl (p x)) (h:=p) (fun _=>rfl) l;simp [xi,Fe,vw,this,lift,List.any_map,Wz]
theorem qX {L:aa} {x:T} {st:bc} (h:jF L x st) (r:Rl) (sm:jI st) (hn:∀k∈r.aj,cO k.l/\cO k.r) (hl:r.aj.length<=1000):eT [aR r,x] L=.ok (.bl (r.aj.all (dW st))) L:=by
 unfold eT;simp_arith;generalize hc:comp _ _ _ _ _ _ _ _=r';obtain rfl:=aS hc r.aj lT (fun k=>.bl (dW st k)) rfl sv (by unfold lim;omega) (fun k hk=>by
  obtain⟨h1,h2⟩:=hn k hk;rw [Bt (k:=k) rfl rfl rfl];simp only [nN,nM];rw [mB (n:=k.l) h rfl (by simp_arith),aI,mB (n:=k.r) h rfl (by simp_arith),aI,aI,aI,aI];exact DY k _ _ (dF (sm.af h1)).1 (dF (sm.af h2)).1 L)
 simp_arith [Iu]
theorem E4 (ys:List Fc) (f:Fc):(ys.map fT).countP (fun y=>eqT y (fT f))=ys.countP fun a=>decide (a=f):=by
 rw [aaB];exact List.countP_congr fun a _=>by simp [s9]
theorem Mf (ys:List Fc) (f:Fc) (L:aa):vL (.tup (ys.map fT)) [fT f] L=.ok (.int (ys.countP fun a=>decide (a=f):Nat)) L:=by
 show b8 _ _=_;rw [au ⟨jm f,fV jm ys⟩,E4]
theorem Mg (ys:List Fc) (f:Fc) (L:aa):vK (.lst (ys.map fT)) [fT f] L=.ok (.int (ys.countP fun a=>decide (a=f):Nat)) L:=by
 show b8 _ _=_;rw [au ⟨jm f,fV jm ys⟩,E4]
theorem oP {L:aa} {x:T} {st:bc} (h:jF L x st) (ks:List Kd) (hk:ks.length<=1000) (r:Rl) (ha:∀f∈r.take++r.keep,f.as.length<=4) (hl:r.take.length+r.keep.length<=1000) (bp bl:List Fc) (s3:T) :
  dO [.lst (ks.map kT),aR r,x,.tup [.tup (bp.map fT),.tup (bl.map fT),s3,.bl false]] L=.ok (.bl (gn ks st r bp bl)) L:=by
 unfold dO;simp_arith;rw [dm rfl ks kT (·.l) (fun k=>.str k.n) (by exact rfl) (by exact ai) (by unfold lim;omega) (by exact fun b _=>by simp_arith) (by exact fun b _ _=>by simp_arith)];have DL:((ks.filter (·.l)).map fun k=>T.str k.n)=(ak ks).map T.str:=by simp [ak]
 simp_arith [DL];rw [jG (fs:=r.take++r.keep) h (fun f hf=>by have:=ha f hf;omega) (by simp;omega) rfl (k:=stays (.lst ((r.take++r.keep).map fT)) L) (by simp_all_arith [<- Vk]) (by exact sv) (by exact fun _=>rfl) (by exact fun _=>rfl)];rw [show(r.take++r.keep).map (wr st)=aD st r from rfl];simp_arith;unfold gn;generalize aD st r=hs;generalize ho:forL _ _ _ _ _ _=o;have h:=cT ho hs fT (fun q φ L'=>∃o6,q.all (cS ks bp bl hs)=hs.all (cS ks bp bl hs)/\φ=[some (.lst (ks.map kT)),some (aR r),some x,some (.tup [.tup (bp.map fT),.tup (bl.map fT),s3,.bl false]),some (.lst ((ak ks).map .str)),some (.lst (hs.map fT)),o6]/\L'=L)
  (fun o=>(hs.all (cS ks bp bl hs)=false/\o=.rt (.bl false) L)\/(hs.all (cS ks bp bl hs)=true/\∃φ,o=.nx φ L)) rfl ⟨none,rfl,rfl,rfl⟩ (fun _ _ eJ eP f q φ L' hh=>by
   obtain⟨o6,e1,rfl,rfl⟩:=hh;refine⟨sv,_,rfl,?_⟩;rw [VU] at e1;simp_arith [eJ,eP];by_cases hm:f.k∈ak ks
   ·have hb:cS ks bp bl hs f=decide (f∈bl):=by unfold cS;rw [if_pos hm]
    rw [hb] at e1;simp_arith [eJ,eP,hm,decide_true];by_cases hi:f∈bl
    ·simp_arith [eJ,eP,hi,decide_true]
     rw [decide_eq_true hi,X8] at e1;exact⟨_,e1,rfl,by trivial⟩
    ·simp_arith [eJ,eP,hi,decide_false]
     rw [decide_eq_false hi,XK] at e1;exact .inl ⟨e1.symm,by trivial⟩
   ·have hb:cS ks bp bl hs f=decide (hs.countP (fun a=>decide (a=f))<=bp.countP fun a=>decide (a=f)):=by unfold cS;rw [if_neg hm]
    rw [hb] at e1;simp_arith [eJ,eP,hm,decide_false,Mf,Mg];by_cases hi:hs.countP (fun a=>decide (a=f))<=bp.countP fun a=>decide (a=f)
    ·rw [decide_eq_true hi,X8] at e1
     rw [decide_eq_false (show ¬ (((bp.countP fun a=>decide (a=f):Nat)):Int)<((hs.countP fun a=>decide (a=f):Nat):Int) by omega)];simp_arith [eJ,eP];exact⟨_,e1,rfl,by trivial⟩
    ·rw [decide_eq_false hi,XK] at e1
     rw [decide_eq_true (show(((bp.countP fun a=>decide (a=f):Nat)):Int)<((hs.countP fun a=>decide (a=f):Nat):Int) by omega)];simp_arith [eJ,eP];exact .inl ⟨e1.symm,by trivial⟩)
  fun φ L' hh=>by
   obtain⟨o6,e1,rfl,rfl⟩:=hh;exact⟨sv,.inr ⟨e1.symm,_,rfl⟩⟩
 rcases h with⟨e,rfl⟩|⟨e,φ,rfl⟩
 ·rw [e];simp_arith
 ·rw [e];simp_arith
theorem xX {L:aa} {x:T} {st:bc} (h:jF L x st) (r:Rl) (ha:∀f∈r.put,f.as.length<=4) (hl:r.put.length<=1000) (kY:r.tell.length<=1000) (bl:List Fc):i0 [aR r,x,.tup (bl.map fT)] L=.ok (.bl (gJ st r bl)) L:=by
 unfold i0 gJ;simp_arith;generalize hc:comp _ _ _ _ _ _ _ _=r';obtain rfl:=aS hc r.put fT (fun f=>.bl (!decide (wr st f∈bl))) rfl sv (by unfold lim;omega) (fun f hf=>by
  simp_arith [pU h f (by have:=ha f hf;omega)])
 simp_arith [Bu];cases h1:r.put.any fun f=>!decide (wr st f∈bl) with
 | true=>simp_arith;simp
 | false =>
  simp_arith;rw [aS rfl r.tell pT (fun p=>pT (af st p.1,af st p.2)) (by exact rfl) (by exact sv) (by unfold lim;omega) (by exact fun p hp=>by simp_arith [w6 h p])];simp_arith;generalize hc:comp _ _ _ _ _ _ _ _=r';obtain rfl:=aS (xs:=r.tell) (enc:=fun p=>pT (af st p.1,af st p.2)) (f:=fun p=>.bl (!decide (af st p.1=af st p.2))) hc rfl sv (by unfold lim;omega) (fun p hp=>by
   simp_arith;rw [show(af st p.1 == af st p.2)=decide (af st p.1=af st p.2) by by_cases h:af st p.1=af st p.2 <;> simp [h]])
  simp_arith [Bu];simp
theorem Bv (ks:List Kd) (hk:ks.length<=1000) (rs:List Rl) (i:Nat) (vs:List Cs) (r:Rl) (hr:rs[i]?=some r) (hv:vs.length=(opens (r.take++r.keep)).length) (Jf:vs.length<=100) (bp bl:List Fc) (yj:bc) (sm:jI (ao r vs)) (hn:∀k∈r.aj,cO k.l/\cO k.r) (ha:∀f∈r.take++r.keep++r.put,f.as.length<=4) (pe:r.take.length<=4/\r.keep.length<=4/\r.aj.length<=4/\r.put.length<=4/\r.tell.length<=4) (L:aa) :
  eF [jD ks rs,aM bp bl yj,stepT i vs] L=.ok (.bl (fw ks (ao r vs) r bp bl false)) L:=by
 have hx:=fun L=>vz (x:=.lst ((opens (r.take++r.keep)).map .str)) (y:=.tup (vs.map .str)) (L:=L) rfl (.inr rfl) (Bk.dU _) (by omega) (by omega)
 have jN:jF (aW (ao r vs)::L) (.ref L.length) (ao r vs):=.inr ⟨_,rfl,cR⟩;have hx:∀L,ij [.lst ((opens (r.take++r.keep)).map .str),.tup (vs.map .str)] L=.ok (.ref L.length) (aW (ao r vs)::L):=hx
 unfold eF;simp_arith [kL ks rs i vs r hr hv];unfold aM stepT;simp_arith [Bs hr,hx,qX jN r sm hn (by omega),oP jN ks hk r (fun f hf=>ha f (Va _ hf)) (by omega)];unfold fw;cases h1:r.aj.all (dW (ao r vs)) with
 | false=>simp_arith;exact fA rfl
 | true =>
  simp_arith;cases h2:gn ks (ao r vs) r bp bl with
  | false=>simp_arith;exact fA rfl
  | true =>
   simp_arith;rw [tE (r:=r) (F:=bP) rfl rfl];simp_arith [wX];cases h3:decide (r.take=[]) with
   | false=>simp_arith;exact fA rfl
   | true =>
    simp_arith [xX jN r (fun f hf=>ha f (Vh _ hf)) (by omega) (by omega)];exact fA rfl
theorem Bw (ks:List Kd) (rs:List Rl) (i:Nat) (vs:List Cs) (r:Rl) (hr:rs[i]?=some r) (hv:vs.length=(opens (r.take++r.keep)).length) (Jf:vs.length<=100) (bp bl:List Fc) (yj:bc) (M:Mv ks bp bl yj (r.take.map (wr (ao r vs))) (r.put.map (wr (ao r vs))) (r.tell.map (DD (ao r vs)))) (ha:∀f∈r.take++r.keep++r.put,f.as.length<=4) (pe:r.take.length<=4/\r.keep.length<=4/\r.aj.length<=4/\r.put.length<=4/\r.tell.length<=4) (L:aa) :
  ∃x,l9 ks bp bl yj (r.take.map (wr (ao r vs))) (r.put.map (wr (ao r vs))) (r.tell.map (DD (ao r vs))) x/\kC [jD ks rs,aM bp bl yj,stepT i vs] L=.ok x L:=by
 have hx:∀L,ij [.lst ((opens (r.take++r.keep)).map .str),.tup (vs.map .str)] L=.ok (.ref L.length) (aW (ao r vs)::L):=fun L=>vz rfl (.inr rfl) (Bk.dU _) (by omega) (by omega)
 have jN:jF (aW (ao r vs)::L) (.ref L.length) (ao r vs):=.inr ⟨_,rfl,cR⟩;obtain⟨x,hR,he⟩:=DW ks bp bl yj _ _ _ M (aW (ao r vs)::L);refine⟨x,hR,?_⟩;have bQ:lt L.length x=true:=by
  rcases hR with⟨_,rfl⟩|⟨bz,left,P,Q,S,_,_,_,_,_,_,_,_,_,rfl⟩
  ·rfl
  ·unfold aM;rw [lt,cb,cb,cb,cb,cb,b6 bg,b6 bg,b6 fy];rfl
 unfold kC;unfold stepT;simp_arith [Bs hr,hx];rw [jG jN (fun f hf=>by have:=ha f (Va _ (Va _ hf));omega) (by omega) rfl (by exact rfl) (by exact sv) (by exact fun _=>rfl) (by exact fun _=>rfl)];simp_arith;rw [jG jN (fun f hf=>by have:=ha f (Vh _ hf);omega) (by omega) rfl (by exact rfl) (by exact sv) (by exact fun _=>rfl) (by exact fun _=>rfl)];simp_arith;rw [aS rfl r.tell pT (fun p=>pT (DD (ao r vs) p)) (by exact rfl) (by exact sv) (by unfold lim;omega) (by exact fun p hp=>by simp_arith [w6 jN p];rfl)];rw [show(r.tell.map fun p=>pT (DD (ao r vs) p))=(r.tell.map (DD (ao r vs))).map pT by rw [Vv];rfl];simp_arith [he];exact fA bQ
theorem DZ (ks:List Kd) (hk:ks.length<=1000) (rs:List Rl) (i:Nat) (vs:List Cs) (r:Rl) (hr:rs[i]?=some r) (hv:vs.length=(opens (r.take++r.keep)).length) (Jf:vs.length<=100) (bp bl:List Fc) (yj:bc) (sm:jI (ao r vs)) (hn:∀k∈r.aj,cO k.l/\cO k.r) (M:Mv ks bp bl yj (r.take.map (wr (ao r vs))) (r.put.map (wr (ao r vs))) (r.tell.map (DD (ao r vs)))) (ha:∀f∈r.take++r.keep++r.put,f.as.length<=4) (pe:r.take.length<=4/\r.keep.length<=4/\r.aj.length<=4/\r.put.length<=4/\r.tell.length<=4) (hF:fw ks (ao r vs) r bp bl false=true) (L:aa) :
  ∃x,l9 ks bp bl yj (r.take.map (wr (ao r vs))) (r.put.map (wr (ao r vs))) (r.tell.map (DD (ao r vs))) x/\lt L.length x=true/\eU [jD ks rs,aM bp bl yj,stepT i vs] L=.ok x L:=by
 obtain⟨x,hR,he⟩:=Bw ks rs i vs r hr hv Jf bp bl yj M ha pe L;have bQ:lt L.length x=true:=by
  rcases hR with⟨_,rfl⟩|⟨bz,left,P,Q,S,_,_,_,_,_,_,_,_,_,rfl⟩
  ·rfl
  ·unfold aM;rw [lt,cb,cb,cb,cb,cb,b6 bg,b6 bg,b6 fy];rfl
 refine⟨x,hR,bQ,?_⟩;unfold eU;simp_arith [Bv ks hk rs i vs r hr hv Jf bp bl yj sm hn ha pe,hF,he];exact fin_same bQ
theorem Iv {a b:Cs} (h:fj a b=false) (h2:fj b a=false):a=b:=by
 rw [oh,decide_eq_false_iff_not] at h h2;by_cases e:a=b
 ·exact e
 ·exact((qq e).elim h h2).elim
theorem Iw {a b c:Cs} (h:fj b a=false) (h2:fj c b=false):fj c a=false:=by
 rw [oh,decide_eq_false_iff_not] at h h2 ⊢;intro z;by_cases e:a=b
 ·exact h2 (e ▸ z)
 ·exact(qq e).elim (fun q=>h2 (aaU z q)) h
noncomputable def rG (ρ:Cs->Cs):Prop:=(∀x,ρ (ρ x)=ρ x)/\∀x y,ρ x=ρ y->(great y=false->ρ x=y)/\(great (ρ x)=true->fj y (ρ x)=false)
theorem rG.wd {ρ:Cs->Cs} (s:rG ρ) {x:Cs} (h:great x=false):ρ x=x:=(s.2 x x rfl).1 h
theorem kO (p q:Cs):bj great fj p q=p\/bj great fj p q=q:=by
 unfold bj;split
 ·exact .inl rfl
 ·split
  ·exact .inr rfl
  ·exact Un.EK p q
theorem xY {p q:Cs} (h:great (bj great fj p q)=true):fj p (bj great fj p q)=false/\fj q (bj great fj p q)=false:=by
 unfold bj at h ⊢;split at h
 ·simp_all
 ·rw [if_neg (by assumption)]
  split at h
  ·simp_all
  ·rw [if_neg (by assumption)]
   unfold mn;have ir:∀a:Cs,fj a a=false:=fun a=>by rw [oh];simp [ZA]
   split
   ·rename_i z
    refine⟨?_,ir q⟩;rw [oh,decide_eq_true_eq] at z;rw [oh,decide_eq_false_iff_not];exact fun y=>ZA _ (aaU z y)
   ·rename_i z
    exact⟨ir p,by simpa using z⟩
theorem kU {ρ:Cs->Cs} (s:rG ρ) (a b:Cs) {x y:Cs}:told great fj ρ a b x=told great fj ρ a b y↔ρ x=ρ y\/((ρ x=ρ a\/ρ x=ρ b)/\(ρ y=ρ a\/ρ y=ρ b)):=by
 have hc:ρ (bj great fj (ρ a) (ρ b))=bj great fj (ρ a) (ρ b):=by rcases kO (ρ a) (ρ b) with e|e <;> rw [e] <;> exact s.1 _
 have hm:∀z,ρ z=bj great fj (ρ a) (ρ b)->ρ z=ρ a\/ρ z=ρ b:=fun z e=>by rcases kO (ρ a) (ρ b) with q|q <;> rw [q] at e <;> simp [e]
 unfold told;grind
theorem Bx {ρ:Cs->Cs} (s:rG ρ) {a b:Cs} (h:¬ cq (ρ a) (ρ b)):rG (told great fj ρ a b):=by
 obtain⟨s1,s2⟩:=s;have hc:=kO (ρ a) (ρ b)
 have hl:=xY (p:=ρ a) (q:=ρ b);have hw:∀y,(ρ y=ρ a\/ρ y=ρ b)->great y=false->bj great fj (ρ a) (ρ b)=y:=fun y hy g=>by
  have e:=(s2 y y rfl).1 g;unfold cq at h;unfold bj;grind
 refine⟨fun x=>?_,fun x y e=>?_⟩
 ·unfold told
  have:=s1 x;have:=s1 a
  have:=s1 b;grind
 ·rw [kU ⟨s1,s2⟩] at e
  have k:(ρ x=ρ a\/ρ x=ρ b)->(ρ y=ρ a\/ρ y=ρ b)->(great y=false->bj great fj (ρ a) (ρ b)=y)/\(great (bj great fj (ρ a) (ρ b))=true->fj y (bj great fj (ρ a) (ρ b))=false):=fun _ hy=>⟨hw y hy,fun g=>by
   have hl:=hl g;have q:=(s2 y y rfl).2
   by_cases gy:great y=true
   ·by_cases gr:great (ρ y)=true
    ·exact Iw (hy.elim (fun e=>e ▸ hl.1) fun e=>e ▸ hl.2) (q gr)
    ·have:bj great fj (ρ a) (ρ b)=ρ y:=hw (ρ y) (by rw [s1];exact hy) (by simpa using gr)
     rw [this] at g;exact absurd g gr
   ·rw [hw y hy (by simpa using gy)] at g
    exact absurd g gy⟩
  show(_->told great fj ρ a b x=y)/\(great (told great fj ρ a b x)=true->fj y (told great fj ρ a b x)=false);by_cases hx:ρ x=ρ a\/ρ x=ρ b
  ·have e1:told great fj ρ a b x=bj great fj (ρ a) (ρ b):=by unfold told;rw [if_pos hx]
   rw [e1];exact k hx (by grind)
  ·have e1:told great fj ρ a b x=ρ x:=by unfold told;rw [if_neg hx]
   rw [e1];exact s2 x y (by grind)
noncomputable def qY (ρ:Cs->Cs) (prs:List (Cs × Cs)) (σ:Cs->Cs):Prop:=rG σ/\(∀x y,ρ x=ρ y->σ x=σ y)/\∀p∈prs,σ p.1=σ p.2
noncomputable def By (ρ:Cs->Cs) (prs:List (Cs × Cs)) (τ:Cs->Cs):Prop:=qY ρ prs τ/\∀σ,qY ρ prs σ->∀x y,τ x=τ y->σ x=σ y
theorem By.uniq {ρ ρ' τ τ':Cs->Cs} {p p':List (Cs × Cs)} (h:By ρ p τ) (h':By ρ' p' τ') (e:∀σ,qY ρ p σ↔qY ρ' p' σ):τ=τ':=funext fun x=>by
 have a:=(h.2 _ ((e _).mpr h'.1) x (τ x) (h.1.1.1 x).symm);have b:=(h'.2 _ ((e _).mp h.1) x (τ' x) (h'.1.1.1 x).symm)
 have q:=h.1.1.2 x (τ' x) b;have q':=h'.1.1.2 x (τ x) a
 cases g:great (τ' x) with
 | false=>exact q.1 g
 | true =>
  cases g2:great (τ x) with
  | false=>exact(q'.1 g2).symm
  | true=>exact Iv (q'.2 g) (q.2 g2)
noncomputable def oi:(Cs->Cs)->List (Cs × Cs)->Option (Cs->Cs)
 | ρ,[]=>some ρ
 | ρ,(a,b)::r=>if cq (ρ a) (ρ b) then none else oi (told great fj ρ a b) r
theorem om {ρ σ:Cs->Cs} (s:rG ρ) {a b:Cs} {r:List (Cs × Cs)}:qY ρ ((a,b)::r) σ↔qY (told great fj ρ a b) r σ:=by
 unfold qY;refine and_congr_right fun hs=>?_
 constructor
 ·rintro⟨h1,h2⟩
  have hab:=h2 (a,b) (by simp);refine⟨fun x y e=>?_,fun p hp=>h2 p (by simp [hp])⟩;rw [kU s] at e;rcases e with e|⟨e1,e2⟩
  ·exact h1 x y e
  ·have u:σ x=σ a:=e1.elim (h1 x a) fun e=>(h1 x b e).trans hab.symm
   have w:σ y=σ a:=e2.elim (h1 y a) fun e=>(h1 y b e).trans hab.symm
   exact u.trans w.symm
 ·rintro⟨h1,h2⟩
  refine⟨fun x y e=>h1 x y ((kU s a b).mpr (.inl e)),fun p hp=>?_⟩;rcases Vn.mp hp with rfl|hp
  ·exact h1 _ _ ((kU s _ _).mpr (.inr ⟨.inl rfl,.inr rfl⟩))
  ·exact h2 p hp
theorem D0 {ρ σ:Cs->Cs} (s:rG ρ) {a b:Cs} {r:List (Cs × Cs)} (h:cq (ρ a) (ρ b)) (q:qY ρ ((a,b)::r) σ):False:=by
 obtain⟨hs,h1,h2⟩:=q;have e:=h2 (a,b) (by simp)
 have ea:=h1 (ρ a) a (s.1 a);have eb:=h1 (ρ b) b (s.1 b)
 rw [hs.wd h.2.1] at ea;rw [hs.wd h.2.2] at eb;exact h.1 (ea.trans (e.trans eb.symm))
theorem jH:∀(prs:List (Cs × Cs)) {ρ:Cs->Cs},rG ρ->(oi ρ prs=none->∀σ,¬ qY ρ prs σ)/\∀τ,oi ρ prs=some τ->By ρ prs τ
 | [],ρ,s=>⟨fun h=>(by cases h),fun τ h=>by
  cases h;exact⟨⟨s,fun _ _ e=>e,fun p hp=>by cases hp⟩,fun σ h=>h.2.1⟩⟩
 | (a,b)::r,ρ,s=>by
  unfold oi;by_cases h:cq (ρ a) (ρ b)
  ·rw [if_pos h]
   exact⟨fun _ σ q=>D0 s h q,fun τ z=>by cases z⟩
  ·rw [if_neg h]
   obtain⟨i1,i2⟩:=jH r (Bx s h);refine⟨fun z σ q=>i1 z σ ((om s).mp q),fun τ z=>?_⟩;obtain⟨j1,j2⟩:=i2 τ z;exact⟨(om s).mpr j1,fun σ q=>j2 σ ((om s).mp q)⟩
structure Sk (K:List Cs) (st:bc):Prop where
 nd:(st.map (·.1)).Nodup
 ks:∀x,x∈st.map (·.1)↔x∈K
 gv:∀e∈st,great e.2=true->e.2∈K
 kg:∀x∈K,great x=true
theorem tR {st:bc}:∀(ns:List Cs),(∀n∈ns,great n=true->n∈st.map (·.1))->iu st ns=st
 | [],_=>rfl
 | n::ns,h=>by
  have e:g6 st n=st:=by
   unfold g6;split
   ·rw [if_pos (h n (by simp) (by assumption))]
   ·rfl
  show iu (g6 st n) ns=st;rw [e];exact tR ns fun m hm=>h m (by simp [hm])
theorem oo (p q:Cs) (x:Cs):∀st:bc,kj (st.map (km p q)) x=(kj st x).map fun v=>if v=p\/v=q then bj great fj p q else v
 | []=>rfl
 | e::st=>by
  have ih:=oo p q x st;unfold kj at ih ⊢;rw [Vg,Wv,Wv];show Option.map _ (match decide (e.1=x) with|true=>some (km p q e)|false=>_)=_
  cases decide (e.1=x) with
  | true=>rfl
  | false=>exact ih
theorem kW {st:bc} {x:Cs}:(∃v,kj st x=some v/\(x,v)∈st/\af st x=v)\/(kj st x=none/\x∉st.map (·.1)/\af st x=x):=by
 unfold af;cases e:kj st x with
 | none =>
  unfold kj at e;refine .inr ⟨rfl,fun h=>?_,rfl⟩;obtain⟨y,hy,rfl⟩:=U6.mp h;exact absurd (WD.mp (aau.mp e) y hy) (by simp)
 | some v =>
  unfold kj at e;obtain⟨y,h1,h2⟩:=Vj.mp e;have h3:y.1=x:=by simpa using List.find?_some h1
  exact .inl ⟨v,rfl,by rw [<- h3,<- h2];exact Xu h1,rfl⟩
theorem Sk.tell {K:List Cs} {st:bc} (s:Sk K st) {a b:Cs} (ha:great a=true->a∈K) (hb:great b=true->b∈K) (ht:¬ cq (af st a) (af st b)):Sk K (bJ st (af st a) (af st b))/\af (bJ st (af st a) (af st b))=told great fj (af st) a b:=by
 have gr:∀{a:Cs},(great a=true->a∈K)->great (af st a)=true->af st a∈K:=fun {a} ha g=>by
  rcases kW (st:=st) (x:=a) with⟨v,_,h2,h3⟩|⟨_,_,h3⟩
  ·rw [h3] at g ⊢;exact s.gv _ h2 g
  ·rw [h3] at g ⊢;exact ha g
 have ga:=gr ha;have gb:=gr hb
 have ck:=kO (af st a) (af st b);refine⟨?_,funext fun x=>?_⟩
 ·unfold bJ
  split
  ·exact s
  ·refine⟨by rw [Bk.jB];exact s.nd,fun x=>by rw [Bk.jB];exact s.ks x,fun e he g=>?_,s.kg⟩
   obtain⟨e',he',rfl⟩:=U6.mp he;unfold km at g ⊢;dsimp only at g ⊢;split at g
   ·rename_i z
    rw [if_pos z];rcases ck with e|e <;> rw [e] at g ⊢
    ·exact ga g
    ·exact gb g
   ·rename_i z
    rw [if_neg z];exact s.gv _ he' g
 ·unfold bJ
  split
  ·rename_i e
   unfold told;rw [<- e];split
   ·rename_i z
    rw [show af st x=af st a by simpa using z];unfold bj mn;simp
   ·rfl
  ·rename_i hne
   rcases kW (st:=st) (x:=x) with⟨v,h1,h2,h3⟩|⟨h1,h2,h3⟩
   ·unfold told
    rw [h3]
    conv=>lhs;unfold af
    rw [oo,h1];rfl
   ·unfold told
    rw [h3]
    conv=>lhs;unfold af
    rw [oo,h1];show x=_
    have hx:great x=true->x∉K:=fun _ h=>h2 ((s.ks x).mpr h)
    unfold cq at ht;unfold bj;grind
theorem Sk.rep {K:List Cs} {st:bc} (s:Sk K st) {a:Cs} (ha:great a=true->a∈K) (g:great (af st a)=true):af st a∈K:=by
 rcases kW (st:=st) (x:=a) with⟨v,_,h2,h3⟩|⟨_,_,h3⟩
 ·rw [h3] at g ⊢;exact s.gv _ h2 g
 ·rw [h3] at g ⊢;exact ha g
theorem qZ {K:List Cs}:∀(prs:List (Cs × Cs)) {st:bc},Sk K st->(∀p∈prs,(great p.1=true->p.1∈K)/\(great p.2=true->p.2∈K))->(aJ st prs=none->oi (af st) prs=none)/\∀eD,aJ st prs=some eD->oi (af st) prs=some (af eD)/\Sk K eD
 | [],st,s,_=>⟨fun h=>(by cases h),fun eD h=>by cases h;exact⟨rfl,s⟩⟩
 | (a,b)::r,st,s,h=>by
  obtain⟨ha,hb⟩:=h (a,b) (by simp);have e:iu st [a,b]=st:=tR _ fun n hn g=>(s.ks n).mpr (all2 (P:=fun n=>great n=true->_) ha hb hn g)
  unfold aJ oi;rw [e];by_cases ht:cq (af st a) (af st b)
  ·rw [if_pos ht,if_pos ht]
   exact⟨fun _=>rfl,fun _ z=>by cases z⟩
  ·rw [if_neg ht,if_neg ht]
   obtain⟨s',e'⟩:=s.tell ha hb ht;rw [<- e'];exact qZ r s' fun p hp=>h p (by simp [hp])
noncomputable def wf (τ:Cs->Cs) (f:Fc):Fc:=⟨f.k,f.as.map τ⟩
theorem mc {τ ρ:Cs->Cs} (h:∀x,τ (ρ x)=τ x) (f:Fc):wf τ (wf ρ f)=wf τ f:=by
 unfold wf;simp [h,Wz]
theorem vA {τ ρ:Cs->Cs} (h:∀x,τ (ρ x)=τ x) (l:List Fc):(l.map (wf ρ)).map (wf τ)=l.map (wf τ):=by
 rw [Vv];exact VE fun f _=>mc h f
theorem vB (ks:List Kd) (τ:Cs->Cs) (l:List Fc):eB ks (l.map (wf τ))=(eB ks l).map (wf τ):=by unfold eB;rw [List.filter_map];rfl
theorem vC (ks:List Kd) (τ:Cs->Cs) (l:List Fc):fN ks (l.map (wf τ))=(fN ks l).map (wf τ):=by unfold fN;rw [List.filter_map];rfl
theorem iJ {a b c:Cs} {st:bc} (nd:(st.map (·.1)).Nodup) (h:(a,b)∈st) (h2:(a,c)∈st):b=c:=congrArg Prod.snd (Bk.iJ nd h h2 rfl)
theorem oq {st eD:bc} (nd:(st.map (·.1)).Nodup) (h:eD.Perm st):af eD=af st:=funext fun n=>by
 rcases kW (st:=eD) (x:=n) with⟨v,_,h2,h3⟩|⟨_,h2,h3⟩ <;> rcases kW (st:=st) (x:=n) with⟨u,_,q2,q3⟩|⟨_,q2,q3⟩
 ·rw [h3,q3,iJ nd (h.mem_iff.mp h2) q2]
 ·exact absurd (U6.mpr ⟨_,h.mem_iff.mp h2,rfl⟩) q2
 ·exact absurd (U6.mpr ⟨_,h.mem_iff.mpr q2,rfl⟩) h2
 ·rw [h3,q3]
theorem Sk.perm {K:List Cs} {st eD:bc} (s:Sk K st) (h:eD.Perm st):Sk K eD :=
 ⟨((h.map (·.1)).nodup_iff).mpr s.nd,fun x=>((h.map (·.1)).mem_iff).trans (s.ks x),fun e he=>s.gv e (h.mem_iff.mp he),s.kg⟩
theorem Sk.all {K:List Cs} {st:bc} (s:Sk K st) (hK:K.Nodup):st.Perm (K.map fun n=>(n,af st n)):=by
 have e:st=(st.map (·.1)).map fun n=>(n,af st n):=by
  rw [Vv]
  conv=>lhs;rw [<- Yr st]
  refine VE fun q hq=>?_
  rcases kW (st:=st) (x:=q.1) with⟨v,_,h2,h3⟩|⟨_,h2,_⟩
  ·show q=(q.1,af st q.1)
   rw [h3,<- iJ s.nd (show(q.1,q.2)∈st from hq) h2]
  ·exact absurd (Vo hq) h2
 conv=>lhs;rw [e]
 exact((Xh s.nd hK).mpr s.ks).map _
structure Pl (K:List Cs) (τ:Cs->Cs) (fU fM:List Fc) (P Q:List Fc) (S:bc):Prop where
 sk:Sk K S
 ro:af S=τ
 sd:rG τ
 p:P.Perm (fU.map (wf τ))
 rp:fJ (P.map fT)
 qn:Q.Nodup
 q:∀f,f∈Q↔f∈fM.map (wf τ)
 rq:fJ (Q.map fT)
 rs:fJ (S.map pT)
theorem Pl.one {K:List Cs} (hK:K.Nodup) {τ:Cs->Cs} {fU fM Bz BB P Q P' Q':List Fc} {S S':bc} (h:Pl K τ fU fM P Q S) (h':Pl K τ Bz BB P' Q' S') (hb:fU.Perm Bz) (hl:∀f,f∈fM↔f∈BB):aM P Q S=aM P' Q' S':=by
 have kf:∀l:List Fc,(l.map fT).all (kd 8)=true:=fun l=>U7.mpr fun y hy=>by obtain⟨f,_,rfl⟩:=U6.mp hy;exact tN f
 have e1:P.map fT=P'.map fT:=jY (kf _) (((h.p.trans (hb.map _)).trans h'.p.symm).map _) h.rp h'.rp;have e2:Q.map fT=Q'.map fT:=jY (kf _) (((Xh h.qn h'.qn).mpr fun f=>by
  rw [h.q,h'.q,U6,U6];simp only [hl]).map _) h.rq h'.rq
 have e3:S.map pT=S'.map pT:=jY (U7.mpr fun y hy=>by obtain⟨p,_,rfl⟩:=U6.mp hy;exact kd_p p) (((h.sk.all hK).trans (by rw [h.ro,<- h'.ro];exact(h'.sk.all hK).symm)).map _) h.rs h'.rs;unfold aM;rw [e1,e2,e3]
noncomputable def Kn (K:List Cs) (a:Cs):Prop:=great a=true->a∈K
theorem q9 {K:List Cs}:∀(prs:List (Cs × Cs)) {st bz:bc},Sk K st->(∀p∈prs,Kn K p.1/\Kn K p.2)->aJ st prs=some bz->bz.length=st.length/\(jI st->(∀p∈prs,cO p.1/\cO p.2)->jI bz)
 | [],st,bz,_,_,e=>by cases e;exact⟨rfl,fun m _=>m⟩
 | (a,b)::r,st,bz,s,hp,e=>by
  obtain⟨ka,kb⟩:=hp (a,b) (by simp);have e0:iu st [a,b]=st:=tR _ fun n hn g=>(s.ks n).mpr (all2 (P:=fun n=>great n=true->_) ka kb hn g)
  unfold aJ at e;rw [e0] at e;split at e
  ·cases e
  ·rename_i ht
   obtain⟨i1,i2⟩:=q9 r (s.tell ka kb ht).1 (fun q hq=>hp q (by simp [hq])) e;refine⟨by rw [i1,kJ],fun m np=>i2 ?_ fun q hq=>np q (by simp [hq])⟩;obtain⟨na,nb⟩:=np (a,b) (by simp);exact m.tell (m.af na) (m.af nb)
theorem BC {K:List Cs} {ks:List Kd} {bp bl ts fs rest:List Fc} {st:bc} {prs:List (Cs × Cs)} {x:T} (s:Sk K st) (sd:rG (af st)) (hx:l9 ks bp bl st ts fs prs x) (hf:∀f∈fs,∀a∈f.as,Kn K a) (hp:∀p∈prs,Kn K p.1/\Kn K p.2)
  (hb:∀f∈bp++bl,wr st f=f) (hr:bp.Perm (ts.map (wr st)++rest)) :
  ((∀σ,¬ qY (af st) prs σ)/\x=aP)\/∃τ P Q S,By (af st) prs τ/\x=aM P Q S/\Pl K τ (rest++eB ks fs) (bl++fN ks fs) P Q S/\(jI st->(∀p∈prs,cO p.1/\cO p.2)->jI S)/\S.length=st.length:=by
 have ek:iu st (fs.flatMap (·.as))=st:=tR _ fun n hn g=>by
  obtain⟨f,h1,h2⟩:=Yo.mp hn;exact(s.ks n).mpr (hf f h1 n h2 g)
 obtain⟨t1,t2⟩:=qZ prs s hp;obtain⟨f1,f2⟩:=jH prs sd;unfold l9 at hx;rw [ek] at hx;rcases hx with⟨h1,h2⟩|⟨bz,left,P,Q,S,h1,h2,h3,h4,h5,h6,h7,h8,h9,rfl⟩
 ·exact .inl ⟨f1 (t1 h1),h2⟩
 ·obtain⟨e2,s2⟩:=t2 bz h1
  have ls:=f2 _ e2;have hw:∀l:List Fc,(∀f∈l,wr st f=f)->lw prs bz l=l.map (wf (af bz)):=fun l hl=>by
   unfold lw;split
   ·rename_i q
    subst q;cases h1;exact(Bk.AJ hl).symm
   ·rfl
  have lp:left.Perm rest:=aaQ.mpr fun f=>by
   rw [h2,hr.count_eq,WV];omega
  have ll:∀f∈left,wr st f=f:=fun f hf=>hb f (Va _ (Bk.wM h2 hf))
  have sp:=(oq s2.nd h8);have nb:=E3 (lw prs bz bl++fN ks (fs.map (wr bz)))
  obtain⟨gs,_,_,_,hg⟩:=nb;refine .inr ⟨af bz,P,Q,S,ls,rfl,⟨s2.perm h8,sp,ls.1.1,?_,?_,h5,fun f=>?_,?_,?_⟩,fun m np=>?_,?_⟩
  ·rw [hw left ll,show fs.map (wr bz)=fs.map (wf (af bz)) from rfl,vB,<- Vk] at h3
   exact h3.trans ((lp.append_right _).map _)
  ·rw [<- h4]
   exact(cA fun y hy=>by obtain⟨f,_,rfl⟩:=U6.mp hy;exact tN f).2
  ·rw [h6,hw bl fun f hf=>hb f (Vh _ hf),show fs.map (wr bz)=fs.map (wf (af bz)) from rfl,vC,<- Vk]
  ·rw [<- h7,hg]
   exact(cA fun y hy=>by obtain⟨f,_,rfl⟩:=U6.mp hy;exact tN f).2
  ·rw [<- h9]
   exact(cA fun y hy=>by obtain⟨p,_,rfl⟩:=U6.mp hy;exact kd_p p).2
  ·exact fun e he=>(q9 prs s hp h1).2 m np e (h8.mem_iff.mp he)
  ·rw [h8.length_eq]
   exact(q9 prs s hp h1).1
noncomputable def vD (K:List Cs) (fU fM:List Fc) (prs:List (Cs × Cs)) (x:T):Prop:=((∀σ,¬ qY id prs σ)/\x=aP)\/∃τ P Q S,By id prs τ/\x=aM P Q S/\Pl K τ fU fM P Q S
theorem vD.one {K:List Cs} (hK:K.Nodup) {fU fM Bz BB:List Fc} {prs Iy:List (Cs × Cs)} {x x':T} (h:vD K fU fM prs x) (h':vD K Bz BB Iy x') (hb:fU.Perm Bz) (hl:∀f,f∈fM↔f∈BB) (hp:∀p,p∈prs↔p∈Iy):x=x':=by
 have e:∀σ,qY id prs σ↔qY id Iy σ:=fun σ=>by
  unfold qY;refine and_congr_right fun _=>and_congr_right fun _=>?_
  simp only [hp]
 rcases h with⟨h1,rfl⟩|⟨τ,P,Q,S,h1,rfl,h2⟩ <;> rcases h' with⟨q1,rfl⟩|⟨τ',P',Q',S',q1,rfl,q2⟩
 ·rfl
 ·exact absurd ((e _).mpr q1.1) (h1 _)
 ·exact absurd ((e _).mp h1.1) (q1 _)
 ·obtain rfl:=h1.uniq q1 e
  exact h2.one hK q2 hb hl
theorem rf {ρ σ:Cs->Cs} {p1 p2:List (Cs × Cs)} (l:By id p1 ρ):qY ρ (p2.map fun p=>(ρ p.1,ρ p.2)) σ↔qY id (p1++p2) σ:=by
 obtain⟨⟨s,_,h1⟩,h2⟩:=l;constructor
 ·rintro⟨a,b,c⟩
  refine⟨a,fun x y e=>by rw [show x=y from e],fun p hp=>?_⟩;rcases Vd.mp hp with h|h
  ·exact b _ _ (h1 p h)
  ·have:=c _ (Vo h)
   rw [b _ _ (s.1 p.1),b _ _ (s.1 p.2)] at this;exact this
 ·rintro⟨a,b,c⟩
  have k:=h2 σ ⟨a,b,fun p hp=>c p (Va _ hp)⟩;refine⟨a,k,fun p hp=>?_⟩;obtain⟨q,hq,rfl⟩:=U6.mp hp;show σ (ρ q.1)=σ (ρ q.2)
  rw [k _ _ (s.1 q.1),k _ _ (s.1 q.2)];exact c q (Vh _ hq)
theorem BD:rG id:=⟨fun _=>rfl,fun x y e=>by
 have e:x=y:=e;subst e;exact⟨fun _=>rfl,fun _=>by rw [oh];simp [ZA]⟩⟩
theorem BE (r:Rl) (ds:List Nat) (vE:List Cs) (hn:∀f∈r.take++r.keep,∀a∈f.as,cO a) (hf:((r.take++r.keep).flatMap (·.as)).length<=32) (hl:r.take.length+r.keep.length<=100) (ho:(opens (r.take++r.keep)).length<=ds.length) (hd:ds.length<=100) (hr:∀d∈ds,d<vE.length) :
  ∃vs:List Cs,vs.length=(opens (r.take++r.keep)).length/\(∀v∈vs,v∈vE)/\∀L,bV [xT r,.lst (ds.map fun d=>.int (d:Nat)),.lst (vE.map .str)] L=.ok (aW (ao r vs)) L:=by
 refine⟨(ds.take (opens (r.take++r.keep)).length).map fun d=>vE.getD d [],by simp;omega,fun v hv=>?_,fun L=>?_⟩
 ·obtain⟨d,hm,rfl⟩:=U6.mp hv
  have:=hr d (Wk hm);rw [Gd9,Ge9 this];exact Vp _
 ·have en:=fun L=>qS (r.take++r.keep) hn hf L
  unfold bV;simp_all_arith [<- Vk,en];generalize hc:comp _ _ _ _ _ _ _ _=r';obtain rfl:=aS hc (ds.take (opens (r.take++r.keep)).length) (fun d:Nat=>T.int (d:Nat)) (fun d=>.str (vE.getD d [])) (k:=stays (.lst ((ds.take (opens (r.take++r.keep)).length).map fun d=>.int (d:Nat))) L) (by
   simp_arith;rw [lZ (by simp;unfold lim;omega),aI,<- WZ]) ai (by simp;unfold lim;omega) (fun d hd=>by
    have:=hr d (Wk hd);simp_arith;exact cK (by rw [Vs,Gd9,Ge9 this];rfl))
  have hx:=vz (x:=.lst ((opens (r.take++r.keep)).map .str)) (y:=.lst ((ds.take (opens (r.take++r.keep)).length).map fun d=>.str (vE.getD d []))) (vs:=(ds.take (opens (r.take++r.keep)).length).map fun d=>vE.getD d []) (L:=L) rfl (.inl (by rw [Vv];rfl)) (Bk.dU _) (by simp;omega) (by omega);simp_arith [hx];exact fB (nU _ _)
theorem xc:∀(ns vs:List Cs),ns.Nodup->vs.length=ns.length->ns.map (af (ns.zip vs))=vs
 | [],[],_,_=>rfl
 | [],_::_,_,h=>by simp at h
 | _::_,[],_,h=>by simp at h
 | n::ns,v::vs,hn,hl=>by
  rw [VW] at hn;have ih:=xc ns vs hn.2 (by simpa using hl)
  rw [Vg,Wq];have e1:af ((n,v)::ns.zip vs) n=v:=by unfold af kj;rw [Wv,decide_eq_true rfl];rfl
  have e2:ns.map (af ((n,v)::ns.zip vs))=ns.map (af (ns.zip vs)):=VE fun m hm=>by
   unfold af kj;rw [Wv,decide_eq_false (fun e=>hn.1 (by have e:n=m:=e;rw [e];exact hm))]
  rw [e1,e2,ih]
theorem Iz (rs:List Rl) (i:Nat) (r:Rl) (hi:rs[i]?=some r) (vs:List Cs) (hv:vs.length=(opens (r.take++r.keep)).length) (hn:∀f∈r.take++r.keep,∀a∈f.as,cO a) (hf:((r.take++r.keep).flatMap (·.as)).length<=32) (hl:r.take.length+r.keep.length<=100) (h3:vs.length<=100) (L:aa) :
  cW [.lst (rs.map xT),.int (i:Nat),aW (ao r vs)] L=.ok (stepT i vs) L:=by
 have en:=fun L=>qS (r.take++r.keep) hn hf L
 have hx:∀L,ix (.lst (rs.map xT)) (.int (i:Nat)) L=.ok (xT r) L:=fun L=>cK (by rw [Vs,hi];rfl)
 unfold cW;simp_arith [hx];generalize hc:comp _ _ _ _ _ _ _ _=r';obtain rfl:=aS hc (opens (r.take++r.keep)) T.str (fun n=>.str (af (ao r vs) n)) (k:=stays (.lst ((opens (r.take++r.keep)).map .str)) L) (by simp_all_arith [<- Vk,en]) ai (by unfold lim;omega) (fun n hm=>by
  simp_arith;have Mh:=Bk.lH hv
  have ha:∃w,kj (ao r vs) n=some w:=by
   rw [<- Mh] at hm;obtain⟨e,he,rfl⟩:=U6.mp hm;unfold kj;cases q:(ao r vs).find? fun p=>decide (p.1=e.1) with
   | none=>exact absurd (WD.mp q e he) (by simp)
   | some y=>exact⟨_,rfl⟩
  obtain⟨w,hw⟩:=ha;unfold ix aW vw;simp only [];rw [au (lO _ _),jc,hw];unfold af;rw [hw];rfl)
 simp_arith;rw [show((opens (r.take++r.keep)).map fun n=>T.str (af (ao r vs) n))=((opens (r.take++r.keep)).map (af (ao r vs))).map .str by rw [Vv];rfl,show(opens (r.take++r.keep)).map (af (ao r vs))=vs from xc _ _ (Bk.dU _) hv];exact fin_same (by simp [lt,cb,kr])
theorem IA (r:Rl) (st:bc) (ha:∀f∈r.take++r.keep,f.as.length<=1000) (hl:r.take.length+r.keep.length<=100) (L:aa):bA [xT r,aW st] L=.ok (.ref L.length) (.lst (((r.take++r.keep).map (wr st)).map fT)::L):=by
 unfold bA xy;rw [if_pos (show [xT r,aW st].length=2 from rfl)];simp only [gY,qH,wH,Vg,V7,WS,VP,aaY,VI];rw [aS rfl (r.take++r.keep) fT (fun f=>fT (wr st f)) (k:=stays (.lst ((r.take++r.keep).map fT)) L) (by simp_all_arith [<- Vk]) (by exact ai) (by simp;unfold lim;omega) (by exact fun f hf=>by simp_arith;exact DR (.inl rfl) f (ha f hf))];rw [show((r.take++r.keep).map fun f=>fT (wr st f))=((r.take++r.keep).map (wr st)).map fT by rw [Vv];rfl];simp_arith;unfold CU;simp only [cR];rw [au (Vm _),u7,fA (aq bg)];rfl
theorem IB (n0 n1 n2 n3:Cs) (L:aa):dY [.lst [.str n0,.str n1,.str n2,.str n3]] L=.ok (.lst ([(n1,n1),(n2,n2),(n3,n3)].map pT)) L:=by
 unfold dY;simp_arith;rw [aS rfl [n1,n2,n3] T.str (fun n=>pT (n,n)) (by exact rfl) (by exact sv) (by unfold lim;simp) (by exact fun n _=>by simp_arith;rfl)];simp_arith;exact fin_same (by simp [lt,cb,pT])
noncomputable def IC (L:aa) (x:T) (ys:List T):Prop:=x=.lst ys\/∃n,x=.ref n/\n<L.length/\at_ L n=some (.lst ys)
section
variable {L:aa} {x:T} {ys:List T} (h:IC L x ys)
include h
theorem IC.up (c:T):IC (c::L) x ys:=h.imp id fun⟨n,e,hn,ha⟩=>⟨n,e,Wa hn,by rw [at_,if_neg (VB hn)];exact ha⟩
theorem IC.v:vw L x=.lst ys:=by
 rcases h with rfl|⟨n,rfl,_,ha⟩
 ·rfl
 ·show(at_ L n).getD .b7=_
  rw [ha];rfl
theorem IC.it:items x L=some ys:=by unfold items;rw [h.v]
theorem IC.st (c d:T):stays x (c::L) (d::L):=fun n e=>by
 rcases h with rfl|⟨m,rfl,hn,_⟩
 ·cases e
 ·cases e
  rw [at_,if_neg (VB hn),at_,if_neg (VB hn)]
end
theorem BF (ks:List Kd) (hk:ks.length<=1000) (fs:List Fc) (hf:fs.length<64) (st:bc) (hs:st.length<64) {x:T} {L:aa} (hx:IC L x (fs.map fT)):∃P Q S,P.Perm (fs.filter fun f=>!decide (f.k∈ak ks))/\Q.Nodup/\(∀f,f∈Q↔f∈fs/\f.k∈ak ks)/\S.Perm st/\fJ (Q.map fT)/\jZ ((fs.filter fun f=>!decide (f.k∈ak ks)).map fT)=P.map fT/\jZ (st.map pT)=S.map pT /\
  cu [.lst (ks.map kT),x,.lst (st.map pT)] L=.ok (aM P Q S) L:=by
 have DL:((ks.filter (·.l)).map fun k=>T.str k.n)=(ak ks).map T.str:=by simp [ak]
 refine oz fun G n9=>?_
 obtain⟨P,DX,Iq⟩:=w9 (fs.filter fun f=>!decide (f.k∈ak ks));obtain⟨S,hS1,hS2⟩:=E2 st;have main:∃kp:List Fc,kp.Nodup/\(∀f,f∈kp↔f∈fs/\f.k∈ak ks)/\∀Q,jZ (kp.map fT)=Q.map fT->cu [.lst (ks.map kT),x,.lst (st.map pT)] L=.ok (aM P Q S) L:=by
  unfold cu;simp_arith;rw [dm rfl ks kT (·.l) (fun k=>.str k.n) (by exact rfl) (by exact sv) (by unfold lim;omega) (by exact fun b _=>by simp_arith) (by exact fun b _ _=>by simp_arith)];have hv:=fun c=>(hx.up c).v
  unfold vw at hv;simp_arith [DL,hv];generalize ho:forL _ _ _ _ _ _=o;have h:=cT ho fs fT (fun q φ L'=>∃(done kp:List Fc) (o5:Option T),done++q=fs/\kp.Nodup/\kp.length<=done.length/\(∀f,f∈kp↔f∈done/\f.k∈ak ks)/\φ=[some (.lst (ks.map kT)),some x,some (.lst (st.map pT)),some (.lst ((ak ks).map .str)),some (.ref L.length),o5,none]/\L'=.lst (kp.map fT)::L)
   (fun o=>∃(kp:List Fc) (o5:Option T),kp.Nodup/\kp.length<=fs.length/\(∀f,f∈kp↔f∈fs/\f.k∈ak ks)/\o=.nx [some (.lst (ks.map kT)),some x,some (.lst (st.map pT)),some (.lst ((ak ks).map .str)),some (.ref L.length),o5,none] (.lst (kp.map fT)::L)) rfl
   ⟨[],[],none,rfl,Xt,Vm _,(by simp),rfl,rfl⟩ (fun _ _ eJ eP f q φ L' hh=>by
    obtain⟨done,kp,o5,e1,h1,h2,h3,rfl,rfl⟩:=hh;refine⟨hx.st _ _,_,rfl,?_⟩;have hd:done.length<=fs.length:=by rw [<- e1];simp
    simp_arith [eJ,eP];have E5:(f.k∉ak ks\/f∈kp)->(∀g,g∈kp↔g∈done++[f]/\g.k∈ak ks):=fun hz g=>by
     rw [h3,Vd,Vx];refine⟨fun z=>⟨.inl z.1,z.2⟩,fun z=>⟨z.1.elim id fun e=>?_,z.2⟩⟩;subst e;rcases hz with hz|hz
     ·exact absurd z.2 hz
     ·exact((h3 g).mp hz).1
    by_cases hm:f.k∈ak ks
    ·simp_arith [eJ,eP,hm,decide_true,Lx (x:=f) (t:=.ref L.length) (ys:=kp) (L:=.lst (kp.map fT)::L) (by simp_arith [eJ,eP])]
     by_cases hi:f∈kp
     ·simp_arith [eJ,eP,hi,decide_true]
      exact⟨done++[f],kp,_,by simpa using e1,h1,by simp;omega,E5 (.inr hi),rfl,rfl⟩
     ·simp_arith [eJ,eP,hi,decide_false,au (show kp.length<lim by unfold lim;omega),bu]
      refine⟨done++[f],kp++[f],_,by simpa using e1,?_,by simp;omega,fun g=>?_,rfl,rfl⟩
      ·rw [WM]
       exact⟨h1,by simp,fun a ha b hb e=>hi (by simp at hb;rw [<- hb,<- e];exact ha)⟩
      ·rw [Vd,Vx,Vd,Vx,h3]
       refine⟨fun z=>z.elim (fun z=>⟨.inl z.1,z.2⟩) fun e=>⟨.inr e,by rw [e];exact hm⟩,fun z=>z.1.elim (fun y=>.inl ⟨y,z.2⟩) .inr⟩
    ·simp_arith [eJ,eP,hm,decide_false]
     exact⟨done++[f],kp,_,by simpa using e1,h1,by simp;omega,E5 (.inl hm),rfl,rfl⟩)
   fun φ L' hh=>by
    obtain⟨done,kp,o5,e1,h1,h2,h3,rfl,rfl⟩:=hh;rw [VA] at e1;subst e1;exact⟨hx.st _ _,kp,o5,h1,h2,h3,rfl⟩
  obtain⟨kp,o5,k1,k2,k3,rfl⟩:=h;refine⟨kp,k1,k3,fun Q hQ=>?_⟩;simp_arith;rw [dm rfl fs fT (fun f=>!decide (f.k∈ak ks)) fT (k:=stays x (.lst (kp.map fT)::L)) (by simp_arith [hv]) (by exact ai) (by unfold lim;omega) (by exact fun b _=>by simp_arith) (by exact fun b _ _=>by simp_arith)];have s1:=qW (x:=.lst ((fs.filter fun f=>!decide (f.k∈ak ks)).map fT)) (L:=.lst (kp.map fT)::L) rfl (xR (by have:=dE (p:=fun f:Fc=>!decide (f.k∈ak ks)) (l:=fs) (n:=63) (by omega);omega))
  have s2:=qW (x:=.ref L.length) (ys:=kp.map fT) (L:=.lst (kp.map fT)::L) (by simp_arith) (xR (by omega));have s3:=qW (x:=.lst (st.map pT)) (L:=.lst (kp.map fT)::L) rfl (Mc hs)
  rw [Iq] at s1;rw [hQ] at s2;rw [hS2] at s3;simp_arith [s1,s2,s3];exact fA (by rw [lt,cb,cb,cb,cb,cb,b6 bg,b6 bg,b6 fy];rfl)
 obtain⟨kp,k1,k2,k3⟩:=main;obtain⟨Q,q1,q2⟩:=w9 kp;refine n9 ?_;clear n9;exact⟨P,Q,S,DX,q1.nodup_iff.mpr k1,fun f=>(q1.mem_iff).trans (k2 f),hS1,by rw [<- q2];exact(cA fun y hy=>by obtain⟨f,_,rfl⟩:=U6.mp hy;exact tN f).2,Iq,hS2,k3 Q q2⟩
theorem ID (st:bc) (n:Cs) (L:aa):bU [.str n,aW st] L=.ok (.str (af st n)) L:=by
 unfold bU;simp only [lX,Vb,VH,YF,if_true,gY,Vg,V7,WS,VP,aac,VI,wH];rw [mB (n:=n) (.inl rfl) rfl rfl];simp_arith
theorem BG (st:bc) (sm:jI st) (k:Lk) (h1:cO k.l) (h2:cO k.r) (L:aa):eQ [oy k,aW st] L=.ok (.bl (dW st k)) L:=by
 unfold eQ dW jC;have a1:=sm.af h1
 have a2:=sm.af h2;simp_arith [ID];cases hs:k.same with
 | true =>
  simp_arith [show(Bk.fR true == S "same")=true by decide +kernel];rw [show(af st k.l == af st k.r)=decide (af st k.l=af st k.r) by by_cases h:af st k.l=af st k.r <;> simp [h]]
 | false =>
  simp_arith [show(Bk.fR false == S "same")=false by decide +kernel,jo (dF a1).1,jo (dF a2).1,show S "N"=[78] from rfl];rw [a1.2,a2.2,show(af st k.l == af st k.r)=decide (af st k.l=af st k.r) by by_cases h:af st k.l=af st k.r <;> simp [h]];have e:∀x:Nat,(x == 78)=decide (x=78):=fun x=>by by_cases h:x=78 <;> simp [h]
  rw [e,e];cases decide ((af st k.l).headD 0=78) <;> cases decide ((af st k.r).headD 0=78) <;> exact fin_same rfl
theorem D3 {α β:Type} (p:α->Bool) (q:β->Bool) (a:List α) (b:List β):decide ((0:Int)<((a.filter p).length:Int)+((b.filter q).length:Int))=(a.any p || b.any q):=by
 have k:∀{γ:Type} (p:γ->Bool) (a:List γ),a.any p=decide (0<(a.filter p).length):=fun p a=>by
  induction a with
  | nil=>rfl
  | cons x a ih=>rw [List.any_cons,ih,List.filter_cons];cases p x <;> simp
 rw [k,k,<- Bool.decide_or];congr 1;simp only [eq_iff_iff];omega
theorem D4 (ks:List Kd) (hk:ks.length<=1000) (r:Rl) (st:bc) (sm:jI st) (hn:∀k∈r.aj,cO k.l/\cO k.r) (ha:∀f∈r.take++r.keep++r.put,f.as.length<=4) (pe:r.take.length<=4/\r.keep.length<=4/\r.aj.length<=4/\r.put.length<=4/\r.tell.length<=4) (bp bl:List Fc) (s0:bc) (L:aa) :
  cV [.lst (ks.map kT),aM bp bl s0,xT r,aW st] L=.ok (.bl (fw ks st r bp bl false)) L:=by
 have DL:((ks.filter (·.l)).map fun k=>T.str k.n)=(ak ks).map T.str:=by simp [ak]
 unfold cV aM;simp_arith;rw [dm rfl ks kT (·.l) (fun k=>.str k.n) (by exact rfl) (by exact sv) (by unfold lim;omega) (by exact fun b _=>by simp_arith) (by exact fun b _ _=>by simp_arith)];simp_arith [DL];rw [aS rfl (r.take++r.keep) fT (fun f=>fT (wr st f)) (k:=stays (.lst ((r.take++r.keep).map fT)) L) (by simp_all_arith [<- Vk]) (by exact ai) (by simp;unfold lim;omega) (by exact fun f hf=>by simp_arith;exact DR (.inl rfl) f (by have:=ha f (Va _ hf);omega))];rw [show((r.take++r.keep).map fun f=>fT (wr st f))=(aD st r).map fT by unfold aD;rw [Vv];rfl];simp_arith;unfold fw gn;generalize UZ:aD st r=hs;generalize ho:forL _ _ _ _ _ _=o;have h:=cT ho hs fT (fun q φ L'=>∃o5,q.all (cS ks bp bl hs)=hs.all (cS ks bp bl hs)/\φ=[some (.lst (ks.map kT)),some (.tup [.tup (bp.map fT),.tup (bl.map fT),.tup (s0.map pT),.bl false]),some (xT r),some (aW st),some (.lst ((ak ks).map .str)),o5,some (.lst (hs.map fT)),none,none]/\L'=L)
  (fun o=>(hs.all (cS ks bp bl hs)=false/\o=.rt (.bl false) L)\/(hs.all (cS ks bp bl hs)=true/\∃o5,o=.nx [some (.lst (ks.map kT)),some (.tup [.tup (bp.map fT),.tup (bl.map fT),.tup (s0.map pT),.bl false]),some (xT r),some (aW st),some (.lst ((ak ks).map .str)),o5,some (.lst (hs.map fT)),none,none] L)) rfl ⟨none,rfl,rfl,rfl⟩ (fun _ _ eJ eP f q φ L' hh=>by
   obtain⟨o5,e1,rfl,rfl⟩:=hh;refine⟨sv,_,rfl,?_⟩;rw [VU] at e1;simp_arith [eJ,eP];by_cases hm:f.k∈ak ks
   ·have hb:cS ks bp bl hs f=decide (f∈bl):=by unfold cS;rw [if_pos hm]
    rw [hb] at e1;by_cases hi:f∈bl
    ·simp_arith [eJ,eP,hm,hi,decide_true]
     rw [decide_eq_true hi,X8] at e1;exact⟨_,e1,rfl,by trivial⟩
    ·simp_arith [eJ,eP,hm,hi,decide_false,decide_true]
     rw [decide_eq_false hi,XK] at e1;exact .inl ⟨e1.symm,by trivial⟩
   ·have hb:cS ks bp bl hs f=decide (hs.countP (fun a=>decide (a=f))<=bp.countP fun a=>decide (a=f)):=by unfold cS;rw [if_neg hm]
    rw [hb] at e1;simp_arith [eJ,eP,hm,decide_false,Mf,Mg];by_cases hi:hs.countP (fun a=>decide (a=f))<=bp.countP fun a=>decide (a=f)
    ·rw [decide_eq_true hi,X8] at e1
     rw [decide_eq_false (show ¬ (((bp.countP fun a=>decide (a=f):Nat)):Int)<((hs.countP fun a=>decide (a=f):Nat):Int) by omega)];simp_arith [eJ,eP];exact⟨_,e1,rfl,by trivial⟩
    ·rw [decide_eq_false hi,XK] at e1
     rw [decide_eq_true (show(((bp.countP fun a=>decide (a=f):Nat)):Int)<((hs.countP fun a=>decide (a=f):Nat):Int) by omega)];simp_arith [eJ,eP];exact .inl ⟨e1.symm,by trivial⟩)
  fun φ L' hh=>by
   obtain⟨o5,e1,rfl,rfl⟩:=hh;exact⟨sv,.inr ⟨e1.symm,_,rfl⟩⟩
 rcases h with⟨e,rfl⟩|⟨e,o5,rfl⟩
 ·rw [e]
  simp_arith
 ·rw [e]
  simp_arith;generalize ho:forL _ _ _ _ _ _=o;have h:=cT ho r.aj oy (fun q φ L'=>(∀k∈q,k∈r.aj)/\q.all (dW st)=r.aj.all (dW st)/\(∃o7,φ=[some (.lst (ks.map kT)),some (.tup [.tup (bp.map fT),.tup (bl.map fT),.tup (s0.map pT),.bl false]),some (xT r),some (aW st),some (.lst ((ak ks).map .str)),o5,some (.lst (hs.map fT)),o7,none])/\L'=L)
   (fun o=>(r.aj.all (dW st)=false/\o=.rt (.bl false) L)\/(r.aj.all (dW st)=true/\∃o7,o=.nx [some (.lst (ks.map kT)),some (.tup [.tup (bp.map fT),.tup (bl.map fT),.tup (s0.map pT),.bl false]),some (xT r),some (aW st),some (.lst ((ak ks).map .str)),o5,some (.lst (hs.map fT)),o7,none] L)) rfl ⟨fun _ h=>h,rfl,⟨none,rfl⟩,rfl⟩ (fun _ _ eJ eP k q φ L' hh=>by
    obtain⟨hq,e1,⟨o7,rfl⟩,rfl⟩:=hh;refine⟨sv,_,rfl,?_⟩;rw [VU] at e1;obtain⟨q1,q2⟩:=hn k (hq k (by simp));simp_arith [eJ,eP,BG st sm k q1 q2];cases hb:dW st k with
    | true =>
     rw [hb,X8] at e1;simp_arith [eJ,eP];exact⟨fun j hj=>hq j (by simp [hj]),e1,⟨_,rfl⟩,by trivial⟩
    | false =>
     rw [hb,XK] at e1;simp_arith [eJ,eP];exact .inl ⟨e1.symm,by trivial⟩)
   fun φ L' hh=>by
    obtain⟨_,e1,⟨o7,rfl⟩,rfl⟩:=hh;exact⟨sv,.inr ⟨e1.symm,_,rfl⟩⟩
  rcases h with⟨e2,rfl⟩|⟨e2,o7,rfl⟩
  ·rw [e2]
   simp_arith
  ·rw [e2]
   simp_arith;by_cases ht:r.take=[]
   ·simp_arith [show decide ((0:Int)<(r.take.length:Int))=false by rw [ht];rfl,decide_eq_true ht]
    generalize hc:comp _ _ _ _ _ _ _ _=r';obtain rfl:=dm hc r.put fT (fun f=>!decide (wr st f∈bl)) fT rfl sv (by unfold lim;omega) (fun f hf=>by
     simp_arith [DR (x:=aW st) (.inl rfl) f (by have:=ha f (Vh _ hf);omega)]) fun f _ _=>by simp_arith
    simp_arith;generalize hc:comp _ _ _ _ _ _ _ _=r';obtain rfl:=dm hc r.tell pT (fun p=>!decide (af st p.1=af st p.2)) pT rfl sv (by unfold lim;omega) (fun p hp=>by
     simp_arith [ID];rw [show(af st p.1 == af st p.2)=decide (af st p.1=af st p.2) by by_cases h:af st p.1=af st p.2 <;> simp [h]]) fun p _ _=>by simp_arith
    have q:∀(p:Fc->Bool) (q:Cs × Cs->Bool),((r.put.filter p).map fT++(r.tell.filter q).map pT).length<=lim:=fun p q=>by
     simp only [U3,Lm9];exact Vt (Nat.add_le_add (Xp _ _) (Xp _ _)) (by unfold lim;omega)
    simp_arith [au (q _ _)];simp only [U3,Lm9,Int.natCast_add,D3,Bool.false_or];rfl
   ·simp_arith [show decide ((0:Int)<(r.take.length:Int))=true by rw [decide_eq_true_eq];have:=Zf.mpr ht;omega,decide_eq_false ht]
    rw [Bool.true_or]
theorem D5 (st:bc) (p q:Cs) (nd:(st.map (·.1)).Nodup) (hl:st.length<=1000) (hp:cO p) (hq:cO q) (hne:p≠q) (ht:¬ cq p q) (L:aa) :
  fX [.ref L.length,.str p,.str q] (aW st::L)=.ok .b7 (aW (bJ st p q)::L):=by
 have key:∀ch go:Cs,(∀v,(if v=go then ch else v)=if v=p\/v=q then bj great fj p q else v)->∃φ,ab [bG (src (ae (cF true) [v 0])) (.one 5) (ab [iff (tv (b2 (b2 (v 0) (v 5) ix) (v 4) (cmp .Eq))) (ab [oB (v 0) (v 5) (v 3)]) (ab [])])] [some (.ref L.length),some (.str p),some (.str q),some (.str ch),some (.str go),none] (aW st::L)=.nx φ (aW (bJ st p q)::L):=fun ch go hv=>by
  simp_arith [list_st hl];generalize ho:forL _ _ _ _ _ _=o;obtain⟨z,rfl⟩:=pV (ch:=ch) (fun v=>v == go) 5 (fun z=>[some (.ref L.length),some (.str p),some (.str q),some (.str ch),some (.str go),z]) none nd hl ho (fun _=>sv) (fun _ _=>rfl) (fun D D' x EU Ig=>by
   simp_arith [EU];cases h:x.2 == go with
   | true=>simp_arith [h,Ig]
   | false=>simp_arith [h])
  rw [show bJ st p q=st.map fun e=>(e.1,if (e.2 == go)=true then ch else e.2) by
   unfold bJ;rw [if_neg hne];exact VE fun e _=>by unfold km;rw [<- hv e.2];simp]
  exact⟨_,rfl⟩
 unfold fX;simp_arith [jo (dF hp).1,jo (dF hq).1,show S "N"=[78] from rfl,tH hp,tH hq];have fin:∀{φ:Fr},fin (aW st::L) .b7 (aW (bJ st p q)::L)=.ok .b7 (aW (bJ st p q)::L):=lM (nU _ _) rfl
 unfold cq at ht;cases hc:(if (!great q)=true then true else if great p=true then decide (q<p) else false) with
 | true =>
  have oC:bj great fj p q=q:=by unfold bj mn fj;grind
  obtain⟨φ,h⟩:=key q p fun v=>by rw [oC];grind
  simp only [if_true,j9,h];exact fin (φ:=φ)
 | false =>
  have oC:bj great fj p q=p:=by unfold bj mn fj;grind
  obtain⟨φ,h⟩:=key p q fun v=>by rw [oC];grind
  simp only [Vi,if_false,j9,h];exact fin (φ:=φ)
theorem BH {K:List Cs} (ks:List Kd) (hk:ks.length<=1000) (P Q fs:List Fc) (S:bc) (prs:List (Cs × Cs)) (s:Sk K S) (sm:jI S) (Bq:S.length<=10) (hl:(P++Q++fs).length<64) (ha:∀f∈P++Q++fs,f.as.length<=4) (hp:∀p∈prs,(Kn K p.1/\cO p.1)/\Kn K p.2/\cO p.2) (L:aa) :
  ∃r,((aJ S prs=none/\r=aP)\/∃bz P' Q' S',aJ S prs=some bz/\P'.Perm (((P++Q++fs).map (wr bz)).filter fun f=>!decide (f.k∈ak ks))/\Q'.Nodup/\(∀f,f∈Q'↔f∈(P++Q++fs).map (wr bz)/\f.k∈ak ks)/\S'.Perm bz/\fJ (P'.map fT)/\fJ (Q'.map fT)/\fJ (S'.map pT)/\r=aM P' Q' S') /\
   eR [.lst (ks.map kT),aM P Q S,.lst [],.lst (fs.map fT),.lst (prs.map pT)] L=.ok r L:=by
 have hb:cF false [.tup (P.map fT)] L=.ok (.ref L.length) (.lst (P.map fT)::L):=by
  show eC false (P.map fT) L=_;rw [eC,au (by simp at hl ⊢;unfold lim;omega)];rfl
 have hd:ic [.tup (S.map pT)] (.lst (P.map fT)::L)=.ok (.ref (L.length+1)) (aW S :: .lst (P.map fT)::L):=n8 (g:=fun p:Cs × Cs=>p.1) (h:=fun p=>.str p.2) S s.nd (by omega) _;unfold eR;unfold aM;simp_arith [hb];rw [forL,if_pos sv];simp_arith [hd];generalize ho:forL _ _ _ _ _ _=o;have h:=cT ho prs pT (fun q φ L'=>∃st o8 o9 Jg,Sk K st/\jI st/\st.length<=10/\aJ st q=aJ S prs/\(∀p∈q,p∈prs)/\φ=[some (.lst (ks.map kT)),some (.tup [.tup (P.map fT),.tup (Q.map fT),.tup (S.map pT),.bl false]),some (.lst []),some (.lst (fs.map fT)),some (.lst (prs.map pT)),some (.ref L.length),none,some (.ref (L.length+1)),o8,o9,Jg,none]/\L'=aW st :: .lst (P.map fT)::L)
  (fun o=>(aJ S prs=none/\∃st,o=.rt aP (aW st :: .lst (P.map fT)::L))\/∃st o8 o9 Jg,aJ S prs=some st/\Sk K st/\st.length<=10/\o=.nx [some (.lst (ks.map kT)),some (.tup [.tup (P.map fT),.tup (Q.map fT),.tup (S.map pT),.bl false]),some (.lst []),some (.lst (fs.map fT)),some (.lst (prs.map pT)),some (.ref L.length),none,some (.ref (L.length+1)),o8,o9,Jg,none] (aW st :: .lst (P.map fT)::L)) rfl ⟨S,none,none,none,s,sm,Bq,rfl,fun _ h=>h,rfl,rfl⟩ (fun _ _ eJ eP p q φ L' hh=>by
   obtain⟨st,o8,o9,Jg,s,sm,Bq,e1,hq,rfl,rfl⟩:=hh;refine⟨sv,_,rfl,?_⟩;obtain⟨a,b⟩:=p;obtain⟨⟨ka,na⟩,kb,nb⟩:=hp _ (hq _ U4);have e0:iu st [a,b]=st:=tR _ fun n hn g=>(s.ks n).mpr (all2 (P:=fun n=>great n=true->_) ka kb hn g)
   have tl:=kJ;have vR:=s.tell ka kb
   have e1:(if cq (af (iu st [a,b]) a) (af (iu st [a,b]) b) then none else aJ (bJ (iu st [a,b]) (af (iu st [a,b]) a) (af (iu st [a,b]) b)) q)=aJ S prs:=e1;rw [e0] at e1;have na:=sm.af na
   have nb:=sm.af nb;have jN:jF (aW st :: .lst (P.map fT)::L) (.ref (L.length+1)) st:=.inr ⟨_,rfl,cR⟩
   simp only [gY,sL];rw [mB (n:=a) jN (by simp_arith) (by simp_arith)];simp only [of_ok,Tg.set,j9,Zv,Zu,gY,sL];rw [mB (n:=b) jN (by simp_arith) (by simp_arith)];simp_arith [eJ,eP,jo (dF na).1,jo (dF nb).1,show M.S "N"=[78] from rfl,tH na,tH nb];by_cases e:af st a=af st b
   ·have ht:¬ cq (af st a) (af st b):=fun z=>z.1 e
    obtain⟨s',_⟩:=vR ht;rw [if_neg ht] at e1;rw [show bJ st (af st a) (af st b)=st by unfold bJ;rw [if_pos e]] at e1;simp_arith [eJ,eP,show(af st a == af st b)=true from beq_iff_eq.mpr e,WW];exact⟨st,_,_,_,s,sm,Bq,e1,fun p h=>hq p (U5 _ h),rfl,rfl⟩
   ·have eb:(af st a == af st b)=false:=beq_eq_false_iff_ne.mpr e
    simp_arith [eJ,eP,eb,Xc];by_cases ht:cq (af st a) (af st b)
    ·rw [if_pos ht] at e1
     simp_arith [eJ,eP,ht.2.1,ht.2.2];exact .inl ⟨e1.symm,st,rfl⟩
    ·obtain⟨s',_⟩:=vR ht
     rw [if_neg ht] at e1;have hg:(if (!great (af st a))=true then !great (af st b) else false)=false:=by
      unfold cq at ht;grind
     have et:=D5 st (af st a) (af st b) s.nd (by omega) na nb e ht (.lst (P.map fT)::L);simp_arith [eJ,eP,hg];simp only [Vb] at et;simp_arith [eJ,eP,et,eb,Xc];exact⟨_,_,_,_,s',sm.tell na nb,by rw [tl];exact Bq,e1,fun p h=>hq p (U5 _ h),rfl,rfl⟩)
  fun φ L' hh=>by
   obtain⟨st,o8,o9,Jg,s,sm,Bq,e1,hq,rfl,rfl⟩:=hh;exact⟨sv,.inr ⟨st,_,_,_,e1.symm,s,Bq,rfl⟩⟩
 rcases h with⟨e1,st,rfl⟩|⟨st,o8,o9,Jg,e1,s,Bq,rfl⟩
 ·refine⟨aP,.inl ⟨e1,rfl⟩,?_⟩
  simp_arith;exact tj (Ln:=[_,_]) rfl (dj L) rfl
 ·have jN:jF (aW st :: .lst (P.map fT)::L) (.ref (L.length+1)) st:=.inr ⟨_,rfl,cR⟩
  have yF:∀L,cF true [.tup (Q.map fT)] L=.ok (.lst (Q.map fT)) L:=fun L=>by
   show eC true (Q.map fT) L=_;rw [eC,au (by simp at hl ⊢;unfold lim;omega)];rfl
  have MU:((P++Q++fs).map (wr st)).length<64:=by rw [Lm9];exact hl
  obtain⟨P',Q',S',h1,h2,h3,h4,h5,h6,h7,h8⟩:=BF ks hk ((P++Q++fs).map (wr st)) MU st (by omega) (x:=.lst (((P++Q++fs).map (wr st)).map fT)) (L:=aW st :: .lst (P.map fT)::L) (.inl rfl);refine⟨aM P' Q' S',.inr ⟨st,P',Q',S',e1,h1,h2,h3,h4,?_,h5,?_,rfl⟩,?_⟩
  ·rw [<- h6]
   exact(cA fun y hy=>by obtain⟨f,_,rfl⟩:=U6.mp hy;exact tN f).2
  ·rw [<- h7]
   exact(cA fun y hy=>by obtain⟨p,_,rfl⟩:=U6.mp hy;exact kd_p p).2
  ·simp_arith
   have ho:aZ true .Add (.ref L.length) (.lst (Q.map fT)) (aW st :: .lst (P.map fT)::L)=eC true (P.map fT++Q.map fT) (aW st :: .lst (P.map fT)::L):=by
    unfold aZ;simp only [iK,sZ,eG,vw]
   generalize hc:comp _ _ _ _ _ _ _ _=r';obtain rfl:=aS hc (P++Q++fs) fT (fun f=>fT (wr st f)) (k:=stays (.lst ((P++Q++fs).map fT)) (aW st :: .lst (P.map fT)::L)) (by
    simp only [U3] at hl;simp_all_arith [yF,ho,<- Vk,U3]) ai (by unfold lim;omega) (fun f hf=>by simp_arith;exact DR jN f (by have:=ha f hf;omega))
   rw [show((P++Q++fs).map fun f=>fT (wr st f))=((P++Q++fs).map (wr st)).map fT by rw [Vv];rfl];simp_arith;generalize hc:comp _ _ _ _ _ _ _ _=r';obtain rfl:=aS hc st (fun e=>.str e.1) pT (k:=stays (.lst ((st.map (·.1)).map .str)) (aW st :: .lst (P.map fT)::L)) (by
    have:=list_st (st:=st) (L:=.lst (P.map fT)::L) (by omega);simp only [Vb] at this;simp_arith [this];simp) ai (by unfold lim;omega) (fun e he=>by
     have hx:kj st e.1=some e.2:=by
      rcases kW (st:=st) (x:=e.1) with⟨v,q1,q2,_⟩|⟨_,q2,_⟩
      ·rw [q1,iJ s.nd q2 (show(e.1,e.2)∈st from he)]
      ·exact absurd (Vo he) q2
     have EU:ix (.ref (L.length+1)) (.str e.1) (aW st :: .lst (P.map fT)::L)=.ok (.str e.2) (aW st :: .lst (P.map fT)::L):=by
      unfold ix;simp only [iK,u6,eG,aW];rw [au (lO _ _),jc,hx];rfl
     simp_arith [EU];rfl)
   simp_arith [h8];exact tj (Ln:=[_,_]) rfl (dj L) (by unfold aM;rw [lt,cb,cb,cb,cb,cb,b6 bg,b6 bg,b6 fy];rfl)
theorem BI {ns vs:List Cs} {g:Cs->Cs} (hl:vs.length=ns.length) {a:Cs} (h:a∉ns->g a=a):af (ns.zip (vs.map g)) a=g (af (ns.zip vs) a):=by
 induction ns generalizing vs with
 | nil=>simpa [af,kj] using (h (by simp)).symm
 | cons n ns ih =>
  cases vs with
  | nil=>simp at hl
  | cons v vs =>
   unfold af kj at ih ⊢;rw [Vg,Wq,Wq,Wv,Wv];by_cases e:n=a
   ·rw [decide_eq_true (show(n,g v).1=a from e)];rfl
   ·rw [decide_eq_false (show ¬ (n,g v).1=a from e)]
    exact ih (by simpa using hl) fun z=>h (by simp [z,WA e])
structure Rv (ks:List Kd) (K:List Cs) (r:Rl) (vs:List Cs):Prop where
 hv:vs.length=(opens (r.take++r.keep)).length
 D6:vs.length<=100
 kv:∀v∈vs,Kn K v/\cO v
 nh:∀f∈r.take++r.keep,∀a∈f.as,cO a/\(a∈opens (r.take++r.keep)\/great a=false)
 np:∀f∈r.put,∀a∈f.as,cO a/\(a∈opens (r.take++r.keep)\/great a=false)
 nl:∀k∈r.aj,(cO k.l/\(k.l∈opens (r.take++r.keep)\/great k.l=false))/\cO k.r/\(k.r∈opens (r.take++r.keep)\/great k.r=false)
 nt:∀p∈r.tell,(cO p.1/\(p.1∈opens (r.take++r.keep)\/great p.1=false))/\cO p.2/\(p.2∈opens (r.take++r.keep)\/great p.2=false)
 pe:r.take.length<=4/\r.keep.length<=4/\r.aj.length<=4/\r.put.length<=4/\r.tell.length<=4
 ff:∀f∈r.take++r.keep++r.put,aO ks f/\f.as.length<=4
 tl:∀f∈r.take,f.k∉ak ks
 cl:r.take=[]->∀f∈r.put,f.k∈ak ks
section
variable {ks:List Kd} {K:List Cs} {r:Rl} {vs:List Cs}
theorem Rv.af (h:Rv ks K r vs) {a:Cs} (ha:cO a/\(a∈opens (r.take++r.keep)\/great a=false)):Kn K (Bk.af (ao r vs) a)/\cO (Bk.af (ao r vs) a):=by
 rcases kW (st:=ao r vs) (x:=a) with⟨v,_,h2,h3⟩|⟨_,h2,h3⟩
 ·rw [h3]
  exact h.kv v (XX h2).2
 ·rw [h3]
  rw [Bk.lH h.hv] at h2;exact⟨fun g=>(by rw [ha.2.resolve_left h2] at g;cases g),ha.1⟩
theorem Rv.turn (h:Rv ks K r vs) {g:Cs->Cs} (sd:rG g) {a:Cs} (ha:cO a/\(a∈opens (r.take++r.keep)\/great a=false)):Bk.af (ao r (vs.map g)) a=g (Bk.af (ao r vs) a) :=
 BI h.hv fun z=>sd.wd (ha.2.resolve_left z)
theorem Rv.wr (h:Rv ks K r vs) {g:Cs->Cs} (sd:rG g) {f:Fc} (hf:∀a∈f.as,cO a/\(a∈opens (r.take++r.keep)\/great a=false)):Bk.wr (ao r (vs.map g)) f=wf g (Bk.wr (ao r vs) f):=by
 unfold Bk.wr wf;simp only [Vv];congr 1;exact VE fun a ha=>h.turn sd (hf a ha)
theorem Rv.rv (h:Rv ks K r vs) {S:bc} (s:Sk K S) (sm:jI S):Rv ks K r (vs.map (Bk.af S)) :=
 ⟨by rw [Lm9];exact h.hv,by rw [Lm9];exact h.D6,fun v hv=>by
  obtain⟨u,hu,rfl⟩:=U6.mp hv;exact⟨s.rep (h.kv u hu).1,sm.af (h.kv u hu).2⟩,h.nh,h.np,h.nl,h.nt,h.pe,h.ff,h.tl,h.cl⟩
theorem Rv.sm (h:Rv ks K r vs):jI (ao r vs):=fun e he=>by
 have e1:e.1∈opens (r.take++r.keep):=by rw [<- Bk.lH h.hv];exact Vo he
 obtain⟨⟨g,hg,hx⟩,_⟩:=Bk.kh e1;exact⟨(h.nh g hg _ hx).1,(h.kv _ (Bk.DC (Vo he))).2⟩
theorem D7 {p:Fc->Bool} {g:Fc->Fc} {y:Fc} (l:List Fc) (h:∀x∈l,g x=y->p x=true):(l.map g).countP (fun a=>decide (a=y))=((l.filter p).map g).countP fun a=>decide (a=y):=by
 rw [aaB,aaB,List.countP_filter];refine List.countP_congr fun x hx=>?_
 simp only [Function.comp_apply,Ve,decide_eq_true_eq];exact⟨fun e=>⟨e,h x hx e⟩,fun e=>e.1⟩
theorem vF (h:Rv ks K r vs) {g:Cs->Cs} (sd:rG g):aD (ao r (vs.map g)) r=(aD (ao r vs) r).map (wf g):=by
 unfold aD;rw [Vv];exact VE fun f hf=>h.wr sd (h.nh f hf)
theorem xZ (h:Rv ks K r vs) {τ:Cs->Cs} {fU fM P Q E:List Fc} {S:bc} (pl:Pl K τ fU fM P Q S) (hl:r.aj.all (dW (ao r vs))=true) (hq:∀f∈aD (ao r vs) r,f.k∈ak ks->f∈fM) (hb:fU.Perm ((aD (ao r vs) r).filter (fun f=>!decide (f.k∈ak ks))++E)) :
  r.aj.all (dW (ao r (vs.map τ)))=true/\gn ks (ao r (vs.map τ)) r P Q=true:=by
 constructor
 ·rw [U7] at hl ⊢
  intro k hk;have z:=hl k hk
  obtain⟨n1,n2⟩:=h.nl k hk;unfold dW jC at z ⊢;rw [h.turn pl.sd n1,h.turn pl.sd n2];split
  ·rename_i e
   rw [if_pos e] at z;rw [of_decide_eq_true z];simp
  ·rename_i e
   rw [if_neg e] at z;simp only [Ve,ZZ] at z;rw [pl.sd.wd z.1,pl.sd.wd z.2.1];simpa using z
 ·unfold gn
  rw [vF h pl.sd,U7];intro y hy;obtain⟨f,hf,rfl⟩:=U6.mp hy;unfold cS;split
  ·rename_i e
   exact decide_eq_true ((pl.q _).mpr (Vo (hq f hf e)))
  ·rename_i e
   rw [decide_eq_true_eq,pl.p.countP_eq,(hb.map _).countP_eq,Vk,List.countP_append,D7 (p:=fun f=>!decide (f.k∈ak ks)) (aD (ao r vs) r) fun x _ q=>?_]
   ·exact Y0 _ _
   ·have:x.k=f.k:=by
     have:=congrArg Fc.k q;exact this
    rw [this];simpa using (show ¬ f.k∈ak ks from e)
noncomputable def tk (r:Rl) (vs:List Cs):List Fc:=r.take.map (Bk.wr (ao r vs))
noncomputable def pu (r:Rl) (vs:List Cs):List Fc:=r.put.map (Bk.wr (ao r vs))
noncomputable def te (r:Rl) (vs:List Cs):List (Cs × Cs):=r.tell.map (DD (ao r vs))
end
section
variable {ks:List Kd} {K:List Cs} {r:Rl} {vs:List Cs}
theorem Rv.kt (h:Rv ks K r vs):∀p∈te r vs,(Kn K p.1/\Kn K p.2)/\cO p.1/\cO p.2:=fun p hp=>by
 obtain⟨q,hq,rfl⟩:=U6.mp hp;obtain⟨a,b⟩:=h.nt q hq;exact⟨⟨(h.af a).1,(h.af b).1⟩,(h.af a).2,(h.af b).2⟩
theorem Rv.kp (h:Rv ks K r vs):∀f∈pu r vs,∀a∈f.as,Kn K a/\cO a:=fun f hf a ha=>by
 obtain⟨g,hg,rfl⟩:=U6.mp hf;obtain⟨b,hb,rfl⟩:=U6.mp ha;exact h.af (h.np g hg b hb)
theorem rg {st:bc} {f:Fc} (h:aO ks f/\f.as.length<=4):aO ks (wr st f)/\(wr st f).as.length<=4:=by
 obtain⟨⟨k,h1,h2,h3⟩,h4⟩:=h;exact⟨⟨k,h1,h2,by simpa [wr] using h3⟩,by simpa [wr] using h4⟩
theorem xd (h:Rv ks K r vs) {g:Cs->Cs} (sd:rG g):te r (vs.map g)=(te r vs).map fun p=>(g p.1,g p.2):=by
 unfold te;rw [Vv];refine VE fun p hp=>?_
 obtain⟨a,b⟩:=h.nt p hp;show(_,_)=(_,_)
 rw [h.turn sd a,h.turn sd b];rfl
theorem xe (h:Rv ks K r vs) {g:Cs->Cs} (sd:rG g):tk r (vs.map g)=(tk r vs).map (wf g):=by
 unfold tk;rw [Vv];exact VE fun f hf=>h.wr sd (h.nh f (Va _ hf))
theorem xf (h:Rv ks K r vs) {g:Cs->Cs} (sd:rG g):pu r (vs.map g)=(pu r vs).map (wf g):=by
 unfold pu;rw [Vv];exact VE fun f hf=>h.wr sd (h.np f hf)
structure Rm (ks:List Kd) (P Q:List Fc) (S:bc) (n:Nat):Prop where
 nd:(ks.map (·.n)).Nodup
 kl:ks.length<=100
 sm:jI S
 sl:S.length<=10
 pl:P.length<=n
 ql:Q.length<=n
 a4:∀f∈P++Q,f.as.length<=4
theorem Rv.mv (h:Rv ks K r vs) {P Q:List Fc} {S:bc} {n:Nat} (hn:n<=40) (m:Rm ks P Q S n) (nd:(S.map (·.1)).Nodup) (hc:∀f,((tk r vs).map (Bk.wr S)).count f<=P.count f):Mv ks P Q S (tk r vs) (pu r vs) (te r vs):=by
 obtain⟨f1,f2,f3,f4,f5⟩:=h.pe;have m1:=m.pl
 have m2:=m.ql;have l1:(tk r vs).length=r.take.length:=by simp [tk]
 have l2:(pu r vs).length=r.put.length:=by simp [pu]
 have l3:(te r vs).length=r.tell.length:=by simp [te]
 have ft:∀f∈tk r vs,aO ks f/\f.as.length<=4:=fun f hf=>by
  obtain⟨g,hg,rfl⟩:=U6.mp hf;exact rg (h.ff g (Va _ (Va _ hg)))
 have fp:∀f∈pu r vs,aO ks f/\f.as.length<=4:=fun f hf=>by
  obtain⟨g,hg,rfl⟩:=U6.mp hf;exact rg (h.ff g (Vh _ hg))
 refine⟨m.nd,m.kl,fun f hf=>(ft f hf).1,fun f hf=>(fp f hf).1,fun f hf=>?_,nd,m.sm,m.sl,by omega,by omega,by omega,by omega,by omega,fun f hf=>?_,fun f hf a ha=>(h.kp f hf a ha).2,fun p hp=>(h.kt p hp).2,hc⟩
 ·obtain⟨g,hg,rfl⟩:=U6.mp hf
  exact h.tl g hg
 ·rcases Vd.mp hf with h|h
  ·exact m.a4 f h
  ·rcases Vd.mp h with h|h
   ·exact(ft f h).2
   ·exact(fp f h).2
end
theorem rh {Q l:List Fc} (qn:Q.Nodup) (h:∀f∈Q,f∈l):Q.length<=l.length:=Bk.lG Q l fun f=>by
 by_cases z:f∈Q
 ·have h1:=List.nodup_iff_count.mp qn f
  have h2:=YE.mpr (h f z);omega
 ·rw [List.count_eq_zero.mpr z];exact VK _
theorem Pl.rm {ks:List Kd} {K:List Cs} {τ:Cs->Cs} {fU fM P Q:List Fc} {S:bc} {n:Nat} (pl:Pl K τ fU fM P Q S) (nd:(ks.map (·.n)).Nodup) (kl:ks.length<=100) (sm:jI S) (sl:S.length<=10) (hb:fU.length<=n) (hl:fM.length<=n) (h4:∀f∈fU++fM,f.as.length<=4):Rm ks P Q S n:=by
 have w4:∀{f:Fc} {l:List Fc},f∈l.map (wf τ)->(∀g∈l,g.as.length<=4)->f.as.length<=4:=fun h h4=>by
  obtain⟨g,hg,rfl⟩:=U6.mp h;have:=h4 g hg
  simpa [wf] using this
 refine⟨nd,kl,sm,sl,by rw [pl.p.length_eq,Lm9];exact hb,?_,fun f hf=>?_⟩
 ·have:=rh pl.qn fun f h=>(pl.q f).mp h
  rw [Lm9] at this;omega
 ·rcases Vd.mp hf with h|h
  ·exact w4 (pl.p.mem_iff.mp h) fun g hg=>h4 g (Va _ hg)
  ·exact w4 ((pl.q f).mp h) fun g hg=>h4 g (Vh _ hg)
theorem turn {ks:List Kd} {K:List Cs} {r:Rl} {vs:List Cs} {P Q E C fU fM:List Fc} {p1:List (Cs × Cs)} {S:bc} {i:Nat} {bk:T} (V:Rv ks K r vs) (ls:By id p1 (af S)) (pl:Pl K (af S) fU fM P Q S) (m:Rm ks P Q S 40)
  (hp:fU.Perm ((aD (ao r vs) r).filter (fun f=>!decide (f.k∈ak ks))++E)) (hc:fU.Perm (tk r vs++C))
  (hl:r.aj.all (dW (ao r vs))=true) (hq:∀f∈aD (ao r vs) r,f.k∈ak ks->f∈fM)
  (qf:∀vs,Rv ks K r vs->∀bp bl st L,eF [bk,aM bp bl st,stepT i vs] L=.ok (.bl (fw ks (ao r vs) r bp bl false)) L)
  (qa:∀vs,Rv ks K r vs->∀bp bl st,Mv ks bp bl st (tk r vs) (pu r vs) (te r vs)->fw ks (ao r vs) r bp bl false=true->∀L,∃x,l9 ks bp bl st (tk r vs) (pu r vs) (te r vs) x/\eU [bk,aM bp bl st,stepT i vs] L=.ok x L) (L:aa) :
  ∃b x,(∀L,eF [bk,aM P Q S,stepT i (vs.map (af S))] L=.ok (.bl b) L)/\(b=true->eU [bk,aM P Q S,stepT i (vs.map (af S))] L=.ok x L)/\(b=false->r.take=[]/\x=aM P Q S)/\vD K (C++eB ks (pu r vs)) (fM++fN ks (pu r vs)) (p1++te r vs) x:=by
 have sd:=pl.sd;have idem:∀x,af S (af S x)=af S x:=sd.1
 obtain⟨g1,g2⟩:=xZ V pl hl hq hp;have V':=V.rv pl.sk m.sm
 have fb:fw ks (ao r (vs.map (af S))) r P Q false=(!decide (r.take=[]) || gJ (ao r (vs.map (af S))) r Q):=by
  unfold fw;rw [g1,g2];simp
 have hb:P.Perm (tk r (vs.map (af S))++C.map (wf (af S))):=by
  rw [xe V sd,<- Vk];exact pl.p.trans (hc.map _)
 have fixed:∀f∈P++Q,wr S f=f:=fun f hf=>by
  obtain⟨g,rfl⟩:∃g,f=wf (af S) g:=by
   rcases Vd.mp hf with h|h
   ·obtain⟨g,_,e⟩:=U6.mp (pl.p.mem_iff.mp h)
    exact⟨g,e.symm⟩
   ·obtain⟨g,_,e⟩:=U6.mp ((pl.q f).mp h)
    exact⟨g,e.symm⟩
  exact mc idem g
 have Mi:(tk r (vs.map (af S))).map (wr S)=tk r (vs.map (af S)):=by
  rw [xe V sd];exact vA idem _
 have MV:=qf _ V' P Q S;cases hF:fw ks (ao r (vs.map (af S))) r P Q false with
 | true =>
  rw [hF] at MV;have M:=V'.mv (by omega) m pl.sk.nd fun f=>by
   rw [Mi,hb.count_eq,WV];exact Y0 _ _
  obtain⟨x,hR,ex⟩:=qa _ V' P Q S M hF L;refine⟨true,x,MV,fun _=>ex,fun z=>(by cases z),?_⟩;rcases BC pl.sk sd hR (fun f hf a ha=>(V'.kp f hf a ha).1) (fun p hp=>(V'.kt p hp).1) fixed (by rw [Mi];exact hb) with⟨no,rfl⟩|⟨τ,P2,Q2,S2,Jh,rfl,x6,_,_⟩
  ·refine .inl ⟨fun σ h=>no σ ?_,rfl⟩
   rw [xd V sd];exact(rf ls).mpr h
  ·rw [xd V sd] at Jh
   have le:∀x,τ (af S x)=τ x:=fun x=>Jh.1.2.1 _ _ (idem x)
   refine .inr ⟨τ,P2,Q2,S2,⟨(rf ls).mp Jh.1,fun σ h=>Jh.2 σ ((rf ls).mpr h)⟩,rfl,⟨x6.sk,x6.ro,x6.sd,?_,x6.rp,x6.qn,fun f=>?_,x6.rq,x6.rs⟩⟩
   ·have:=x6.p
    rw [xf V sd,vB,<- Vk,vA le] at this;exact this
   ·rw [x6.q,xf V sd,vC]
    simp only [U6,Vd];constructor
    ·rintro⟨g,hg|⟨g',hg',rfl⟩,rfl⟩
     ·obtain⟨g',hg',rfl⟩:=U6.mp ((pl.q g).mp hg)
      exact⟨g',.inl hg',(mc le g').symm⟩
     ·exact⟨g',.inr hg',(mc le g').symm⟩
    ·rintro⟨g,hg,rfl⟩
     rcases hg with z|z
     ·exact⟨wf (af S) g,.inl ((pl.q _).mpr (Vo z)),mc le g⟩
     ·exact⟨wf (af S) g,.inr ⟨g,z,rfl⟩,mc le g⟩
 | false =>
  rw [hF] at MV;rw [fb] at hF;simp only [Y4,Bool.not_eq_false',decide_eq_true_eq] at hF;obtain⟨h0,oC⟩:=hF;unfold gJ at oC;rw [Y4,YK,YK] at oC;refine⟨false,aM P Q S,MV,fun z=>(by cases z),fun _=>⟨h0,rfl⟩,.inr ⟨af S,P,Q,S,?_,rfl,⟨pl.sk,rfl,sd,?_,pl.rp,pl.qn,fun f=>?_,pl.rq,pl.rs⟩⟩⟩
  ·refine⟨⟨sd,ls.1.2.1,fun p hp=>?_⟩,fun σ h=>ls.2 σ ⟨h.1,h.2.1,fun p hp=>h.2.2 p (Va _ hp)⟩⟩
   rcases Vd.mp hp with z|z
   ·exact ls.1.2.2 p z
   ·obtain⟨q,hq,rfl⟩:=U6.mp z
    have:=oC.2 q hq;obtain⟨n1,n2⟩:=V.nt q hq;rw [V.turn sd n1,V.turn sd n2] at this;have this:af S (af (ao r vs) q.1)=af S (af (ao r vs) q.2):=by simpa using this
    exact this
  ·have t0:tk r vs=[]:=by unfold tk;rw [h0];rfl
   have b0:eB ks (pu r vs)=[]:=by
    unfold eB;rw [XS];intro f hf;obtain⟨g,hg,rfl⟩:=U6.mp hf;have z:=V.cl h0 g hg
    show ¬ (!decide (g.k∈ak ks))=true;simp [z]
   rw [b0,VA];rw [t0,VP] at hc;exact pl.p.trans (hc.map _)
  ·rw [pl.q]
   simp only [U6,Vd];refine⟨fun⟨g,hg,e⟩=>⟨g,.inl hg,e⟩,fun⟨g,hg,e⟩=>hg.elim (fun z=>⟨g,z,e⟩) fun z=>?_⟩;obtain⟨g',hg',rfl⟩:=U6.mp (VC.mp z).1;have:=oC.1 g' hg'
   rw [V.wr sd (V.np g' hg')] at this;have hm:wf (af S) (wr (ao r vs) g')∈Q:=by simpa using this
   rw [<- e];exact U6.mp ((pl.q _).mp hm)
theorem rz {ρ σ:Cs->Cs} {p1 p2:List (Cs × Cs)} (l:By id p1 ρ):qY ρ p2 σ↔qY id (p1++p2) σ:=by
 obtain⟨⟨s,_,h1⟩,h2⟩:=l;constructor
 ·rintro⟨a,b,c⟩
  exact⟨a,fun x y e=>by rw [show x=y from e],fun p hp=>(Vd.mp hp).elim (fun h=>b _ _ (h1 p h)) (c p)⟩
 ·rintro⟨a,b,c⟩
  exact⟨a,h2 σ ⟨a,b,fun p hp=>c p (Va _ hp)⟩,fun p hp=>c p (Vh _ hp)⟩
noncomputable def Out (K:List Cs) (fU fM:List Fc) (prs:List (Cs × Cs)) (x:T):Prop:=((∀σ,¬ qY id prs σ)/\x=aP)\/∃P Q S,By id prs (af S)/\x=aM P Q S/\Pl K (af S) fU fM P Q S/\jI S/\S.length<=10
theorem Out.comb {K:List Cs} {fU fM:List Fc} {prs:List (Cs × Cs)} {x:T} (h:Out K fU fM prs x):vD K fU fM prs x:=h.imp id fun⟨P,Q,S,a,b,c,_⟩=>⟨_,P,Q,S,a,b,c⟩
theorem BJ {K:List Cs} {ks:List Kd} {fU fM fs:List Fc} {p1 prs:List (Cs × Cs)} {x:T} (h:Out K fU fM p1 x) (hk:ks.length<=1000) (kb:∀f∈fU,f.k∉ak ks) (kl:∀f∈fM,f.k∈ak ks) (hl:fU.length+fM.length+fs.length<64) (h4:∀f∈fU++fM++fs,f.as.length<=4) (hp:∀p∈prs,(Kn K p.1/\cO p.1)/\Kn K p.2/\cO p.2) (L:aa) :
  ∃y,Out K (fU++eB ks fs) (fM++fN ks fs) (p1++prs) y/\cv [.lst (ks.map kT),x,.lst (fs.map fT),.lst (prs.map pT)] L=.ok y L:=by
 rcases h with⟨no,rfl⟩|⟨P,Q,S,ls,rfl,pl,sm,Bq⟩
 ·refine⟨aP,.inl ⟨fun σ q=>no σ ⟨q.1,q.2.1,fun p hp=>q.2.2 p (Va _ hp)⟩,rfl⟩,?_⟩
  unfold cv aP;simp_arith;exact fin_same rfl
 ·have wk:∀{l:List Fc} {f:Fc},f∈l.map (wf (af S))->∃g∈l,g.k=f.k/\g.as.length=f.as.length:=fun h=>by
   obtain⟨g,hg,rfl⟩:=U6.mp h;exact⟨g,hg,rfl,by simp [wf]⟩
  have pP:∀f∈P,f.k∉ak ks/\f.as.length<=4:=fun f hf=>by
   obtain⟨g,hg,e1,e2⟩:=wk (pl.p.mem_iff.mp hf);rw [<- e1,<- e2];exact⟨kb g hg,h4 g (Va _ (Va _ hg))⟩
  have pQ:∀f∈Q,f.k∈ak ks/\f.as.length<=4:=fun f hf=>by
   obtain⟨g,hg,e1,e2⟩:=wk ((pl.q f).mp hf);rw [<- e1,<- e2];exact⟨kl g hg,h4 g (Va _ (Vh _ hg))⟩
  have l1:=pl.p.length_eq;have l2:=rh pl.qn fun f h=>(pl.q f).mp h
  rw [Lm9] at l1 l2;obtain⟨r,hr,e⟩:=BH ks hk P Q fs S prs pl.sk sm Bq (by simp only [U3];omega) (fun f hf=>(Vd.mp hf).elim (fun h=>(Vd.mp h).elim (fun h=>(pP f h).2) fun h=>(pQ f h).2) fun h=>h4 f (Vh _ h)) hp L;have hr:Out K (fU++eB ks fs) (fM++fN ks fs) (p1++prs) r:=by
   obtain⟨t1,t2⟩:=qZ prs pl.sk fun p h=>⟨(hp p h).1.1,(hp p h).2.1⟩
   obtain⟨f1,f2⟩:=jH prs pl.sd;rcases hr with⟨h1,rfl⟩|⟨bz,P',Q',S',h1,h2,h3,h5,h6,h7,h8,h9,rfl⟩
   ·exact .inl ⟨fun σ q=>f1 (t1 h1) σ ((rz ls).mpr q),rfl⟩
   ·obtain⟨e2,s2⟩:=t2 bz h1
    have l2:=f2 _ e2;have ro:=oq s2.nd h6
    obtain⟨n1,n2⟩:=q9 prs pl.sk (fun p h=>⟨(hp p h).1.1,(hp p h).2.1⟩) h1;have le:∀x,af bz (af S x)=af bz x:=fun x=>l2.1.2.1 _ _ (pl.sd.1 x)
    have fP:∀f∈P,decide (f.k∈(ks.filter (·.l)).map (·.n))=false:=fun f h=>decide_eq_false (pP f h).1
    have fQ:∀f∈Q,decide (f.k∈(ks.filter (·.l)).map (·.n))=true:=fun f h=>decide_eq_true (pQ f h).1
    have b1:eB ks (P++Q++fs)=P++eB ks fs:=by
     unfold eB;rw [Xq,Xq,XG.mpr fun f (h:f∈P)=>by rw [fP f h];rfl,XS.mpr fun f (h:f∈Q)=>by rw [fQ f h];decide,VA]
    have b2:fN ks (P++Q++fs)=Q++fN ks fs:=by
     unfold fN;rw [Xq,Xq,XS.mpr fun f (h:f∈P)=>by rw [fP f h];decide,XG.mpr fun f (h:f∈Q)=>fQ f h,VP]
    refine .inr ⟨P',Q',S',?_,rfl,?_,fun e he=>n2 sm (fun p h=>⟨(hp p h).1.2,(hp p h).2.2⟩) e (h6.mem_iff.mp he),by rw [h6.length_eq,n1];exact Bq⟩
    ·rw [ro]
     exact⟨(rz ls).mp l2.1,fun σ h=>l2.2 σ ((rz ls).mpr h)⟩
    ·rw [ro]
     refine⟨s2.perm h6,ro,l2.1.1,?_,h7,h3,fun f=>?_,h8,h9⟩
     ·have h2:P'.Perm (eB ks ((P++Q++fs).map (wf (af bz)))):=h2
      rw [vB,b1,Vk] at h2;refine h2.trans ?_;rw [Vk,<- vA le fU];exact(pl.p.map _).append_right _
     ·have z:f∈Q'↔f∈fN ks ((P++Q++fs).map (wf (af bz))):=(h5 f).trans (by unfold fN;rw [VC,decide_eq_true_eq];rfl)
      rw [z,vC,b2,Vk,Vk,Vd,Vd];refine or_congr_left ?_;simp only [U6];constructor
      ·rintro⟨g,hg,rfl⟩
       obtain⟨g',hg',rfl⟩:=U6.mp ((pl.q g).mp hg);exact⟨g',hg',(mc le g').symm⟩
      ·rintro⟨g,hg,rfl⟩
       exact⟨wf (af S) g,(pl.q _).mpr (Vo hg),mc le g⟩
  refine⟨r,hr,?_⟩;unfold cv;unfold aM at e ⊢;simp_arith [e];refine fin_same ?_;rcases hr with⟨_,rfl⟩|⟨P,Q,S,_,rfl,_⟩
  ·rfl
  ·unfold aM;rw [lt,cb,cb,cb,cb,cb,b6 bg,b6 bg,b6 fy];rfl
theorem D8 (ks:List Kd) (rs:List Rl) (i:Nat) (vs:List Cs) (r:Rl) (hr:rs[i]?=some r) (hv:vs.length=(opens (r.take++r.keep)).length) (L:aa):eF [jD ks rs,aP,stepT i vs] L=.ok (.bl false) L:=by
 unfold eF;simp_arith [kL ks rs i vs r hr hv];unfold aP;simp_arith
theorem E6 (cs:List Int) (a b:Nat) (L:aa) (h:cs.length<=63):∃Rf:List Int,Rf.length<=b - a/\jd true (.lst (cs.map .int)) (some (a:Int)) (some (b:Int)) L=.ok (.lst (Rf.map .int)) L:=by
 have e:cut (cs.map T.int) (some (a:Int)) (some (b:Int))=(cut cs (some (a:Int)) (some (b:Int))).map T.int:=by
  unfold cut;rw [Lm9,WZ,List.map_drop]
 have hl:(cut cs (some (a:Int)) (some (b:Int))).length<=b - a/\(cut cs (some (a:Int)) (some (b:Int))).length<=63:=by
  unfold cut clip;rw [VS,VM];simp only [];rw [if_neg (by omega),if_neg (by omega)];omega
 refine⟨_,hl.1,?_⟩;show eC true (cut (cs.map .int) (some (a:Int)) (some (b:Int))) L=_
 rw [e,eC,au (by rw [Lm9];unfold lim;omega)];rfl
theorem D9 {k:aa->Prop} {b:SS} {o:O} {L:aa} (xs:List Int) (A:List Fc) (good:Fc->Prop) (i:Nat) (F:Option T->Fr) (z:Option T) (ho:forL k (.one i) b (xs.map .int) (F z) (.lst (A.map fT)::L)=o) (hk:∀L',k L') (hF:∀z x,(F z).set i (some x)=F (some x))
  (hb:∀(x:Int) (A':List Fc),A'.length<=A.length+xs.length->∃f,good f/\b (F (some (.int x))) (.lst (A'.map fT)::L)=.nx (F (some (.int x))) (.lst ((A'++[f]).map fT)::L)) :
  ∃D z,D.length=xs.length/\(∀f∈D,good f)/\o=.nx (F z) (.lst ((A++D).map fT)::L):=by
 refine cT ho xs T.int (fun q φ L'=>∃D z,D.length+q.length=xs.length/\(∀f∈D,good f)/\φ=F z/\L'=.lst ((A++D).map fT)::L) (fun o=>∃D z,D.length=xs.length/\(∀f∈D,good f)/\o=.nx (F z) (.lst ((A++D).map fT)::L)) rfl ⟨[],z,by simp,by simp,rfl,by simp⟩ (fun _ _ eJ eP x q φ L' hh=>?_) fun φ L' hh=>?_
 ·obtain⟨D,z,h1,h2,rfl,rfl⟩:=hh
  obtain⟨f,hf,e⟩:=hb x (A++D) (by rw [U3];simp at h1;omega);refine⟨hk _,_,rfl,?_⟩;rw [hF,e,pJ,eJ];exact⟨D++[f],_,by simp at h1 ⊢;omega,fun g hg=>(Vd.mp hg).elim (h2 g) fun h=>by rw [Vx.mp h];exact hf,rfl,by simp⟩
 ·obtain⟨D,z,h1,h2,rfl,rfl⟩:=hh
  exact⟨hk _,D,z,by simpa using h1,h2,rfl⟩
def IE (F1 F2 F3 F4 F5 F6 F7 F8 F9 MW MX Ji MY Jj Jk Mj:Fn):Fn:=run 1 20 (ab [asg (.many [1,2,3,4]) (ae F1 [v 0]),asg (.one 5) (ae F2 [ae F3 [v 0,c (.int 6)],lst true [c (.int 2),c (.int 4),c (.int 4),c (.int 4),c (.int 3),c (.int 4),c (.int 4),c (.int 4),c (.int 4)]]),asg (.one 6) (ae F4 [ae F5 [v 1,v 4]]),asg (.one 7) (b2 (sl true (v 3) none (some (c (.int 1)))) (sl true (v 2) (some (c (.int 1))) none) (aZ true .Add)),asg (.one 8) (b2 (v 4) (vi 5 0) ix),asg (.one 9) (ae F6 [v 8,sl true (v 5) (some (c (.int 1))) (some (c (.int 4))),v 7]),asg (.one 10) (ae F7 [v 8,v 9]),bG (src (sl true (v 0) (some (c (.int 7))) (some (c (.int 13))))) (.one 11) (ab [gd (aN (aG) (v 10) [ae F8 [v 1,b2 (ae F2 [v 11,lst true [c (.int 1024)]]) (c (.int 0)) ix,v 7]])]),asg (.one 12) (comp true (src (sl true (v 0) (some (c (.int 13))) (some (c (.int 25))))) [none,none,some 1,some 7] (.one 1) yes (ae F8 [v 2,b2 (ae F2 [v 1,lst true [c (.int 1024)]]) (c (.int 0)) ix,v 3])),asg (.one 13) (sl true (lst true [tup [b2 (v 7) (vi 5 5) ix,b2 (v 7) (vi 5 6) ix],tup [b2 (v 7) (vi 5 7) ix,b2 (v 7) (vi 5 8) ix]]) none (some (vi 5 4))),iff (tv (b2 (vi 5 4) (c (.int 0)) (cmp .Eq))) (ab [asg (.one 13) (comp true (src (vi 8 2)) [none,none,some 9] (.one 1) yes (tup [ae Mj [vi 1 1,v 2],ae Mj [vi 1 2,v 2]]))]) (ab []),asg (.one 14) (ae F9 [v 1,v 10,ae MW [v 2]]),asg (.one 15) (ae MX [v 4,vi 5 0,v 9]),iff (fF (tv (ae Ji [v 6,v 14,v 15]))) (ab [ret (pW (ae MY [v 1,v 14,v 8,v 9]))]) (ab []),asg (.one 16) (ae Jj [v 1,v 14,v 12,v 13]),asg (.one 17) (ae Jj [v 1,ae Jk [v 6,v 14,v 15],v 12,v 13]),asg (.one 18) (ae ic [vi 16 2]),asg (.one 19) (tup [vi 15 0,ae iz [comp true (src (vi 15 1)) [none,none,some 18] (.one 1) yes (aN (bS) (v 2) [v 1,v 1])]]),iff (tv (ae Ji [v 6,v 16,v 19])) (ab [ret (b2 (ae Jk [v 6,v 16,v 19]) (v 17) (cmp .Eq))]) (ab []),ret (lA [b2 (v 16) (v 17) (cmp .Eq),BX [vi 16 3,b2 (ae bH [vi 8 0]) (c (.int 0)) (cmp .Eq)]])])
theorem Ea:td=IE dX ax bE d9 dZ bV bA aE cu dY cW eF cV cv eU bU:=rfl
section
variable {F1 F2 F3 F4 F5 F6 F7 F8 F9 MW MX Ji MY Jj Jk Mj:Fn}
theorem Eb (cs:List Int) (hc:cs.length<=63) (kl rl bk vR:T) (tx:Cs) (r:Rl) (vG:bc) (vs:List Cs) (n0 n1 n2 n3 w0 w1 a5 a6 a7 a8:Cs) (d0 d1 d2 d3 d4 d5 d6 d7 d8:Nat) (A:List Fc) (S0:List T) (good:Fc->Prop)
  (eb:∀L,F1 [.lst (cs.map .int)] L=.ok (.tup [kl,.lst [.str n0,.str n1,.str n2,.str n3],.lst [.str w0,.str w1],rl]) L)
  (Ml:∀k,0<=k->∀L,F3 [.lst (cs.map .int),.int k] L=.ok (.int (cs.getD k.toNat 0)) L)
  (ed:∀L,F2 [.int (cs.getD 6 0),.lst [.int 2,.int 4,.int 4,.int 4,.int 3,.int 4,.int 4,.int 4,.int 4]] L=.ok (.lst [.int (d0:Nat),.int (d1:Nat),.int (d2:Nat),.int (d3:Nat),.int (d4:Nat),.int (d5:Nat),.int (d6:Nat),.int (d7:Nat),.int (d8:Nat)]) L)
  (BK:∀L,F5 [kl,rl] L=.ok (.str tx) L) (BL:∀L,F4 [.str tx] L=.ok bk L) (hx:∀L,ix rl (.int (d0:Nat)) L=.ok (xT r) L)
  (e1:∀L,F6 [xT r,.lst [.int (d1:Nat),.int (d2:Nat),.int (d3:Nat)],.lst [.str w0,.str n1,.str n2,.str n3]] L=.ok (aW vG) L)
  (q1:∀L,F7 [xT r,aW vG] L=.ok (.ref L.length) (.lst (A.map fT)::L)) (hA:A.length<=4)
  (Mm:∀c:Int,∃d:Nat,∀L,F2 [.int c,.lst [.int 1024]] L=.ok (.lst [.int (d:Nat)]) L)
  (BM:∀n:Int,∃f,good f/\∀L,F8 [kl,.int n,.lst [.str w0,.str n1,.str n2,.str n3]] L=.ok (fT f) L)
  (Mn:∀L,MW [.lst [.str n0,.str n1,.str n2,.str n3]] L=.ok (.lst S0) L)
  (Ul:∀n L,Mj [.str n,aW vG] L=.ok (.str (af vG n)) L) (Q5:r.aj.length<=4)
  (i5:∀L,ix (.lst [.str w0,.str n1,.str n2,.str n3]) (.int (d5:Nat)) L=.ok (.str a5) L) (i6:∀L,ix (.lst [.str w0,.str n1,.str n2,.str n3]) (.int (d6:Nat)) L=.ok (.str a6) L) (i7:∀L,ix (.lst [.str w0,.str n1,.str n2,.str n3]) (.int (d7:Nat)) L=.ok (.str a7) L) (i8:∀L,ix (.lst [.str w0,.str n1,.str n2,.str n3]) (.int (d8:Nat)) L=.ok (.str a8) L)
  (s1:∀L,MX [rl,.int (d0:Nat),aW vG] L=.ok (stepT d0 vs) L) (hv:vs.length<=100)
  (rest:∀(D M:List Fc) (L:aa),D.length<=6->M.length<=12->(∀f∈D,good f)->(∀f∈M,good f)->∃(pl:T) (b:Bool),F9 [kl,.ref L.length,.lst S0] (.lst ((A++D).map fT)::L)=.ok pl (.lst ((A++D).map fT)::L)/\(∀L,Ji [bk,pl,stepT d0 vs] L=.ok (.bl b) L)/\(∀L,MY [kl,pl,xT r,aW vG] L=.ok (.bl b) L) /\
   (b=true->∀prs,prs=(if d4=0 then r.aj.map fun k=>(af vG k.l,af vG k.r) else [(a5,a6),(a7,a8)].take d4)->∃(gr x1 du:T) (S:bc) (b2 bq:Bool),Jj [kl,pl,.lst (M.map fT),.lst (prs.map pT)] (.lst ((A++D).map fT)::L)=.ok gr (.lst ((A++D).map fT)::L)/\Jk [bk,pl,stepT d0 vs] (.lst ((A++D).map fT)::L)=.ok x1 (.lst ((A++D).map fT)::L)/\Jj [kl,x1,.lst (M.map fT),.lst (prs.map pT)] (.lst ((A++D).map fT)::L)=.ok du (.lst ((A++D).map fT)::L) /\
    (∀L,ix gr (.int 2) L=.ok (.tup (S.map pT)) L)/\(∀L,ix gr (.int 3) L=.ok (.bl bq) L)/\(S.map (·.1)).Nodup/\S.length<=10/\(∀L,Ji [bk,gr,stepT d0 (vs.map (af S))] L=.ok (.bl b2) L)/\(b2=true->Jk [bk,gr,stepT d0 (vs.map (af S))] (aW S :: .lst ((A++D).map fT)::L)=.ok du (aW S :: .lst ((A++D).map fT)::L))/\(b2=false->gr=du/\(bq=true\/r.take=[]))/\∀L,E9 du du L=.ok true L)) (L:aa) :
  IE F1 F2 F3 F4 F5 F6 F7 F8 F9 MW MX Ji MY Jj Jk Mj [.lst (cs.map .int)] L=.ok (.bl true) L:=by
 have Um:∀L,jd true (.lst [.str w0,.str w1]) none (some 1) L=.ok (.lst [.str w0]) L:=fun L=>rfl
 have Uo:∀L,jd true (.lst [.str n0,.str n1,.str n2,.str n3]) (some 1) none L=.ok (.lst [.str n1,.str n2,.str n3]) L:=fun L=>rfl
 have Up:∀L,jd true (.lst [.int (d0:Nat),.int (d1:Nat),.int (d2:Nat),.int (d3:Nat),.int (d4:Nat),.int (d5:Nat),.int (d6:Nat),.int (d7:Nat),.int (d8:Nat)]) (some 1) (some 4) L=.ok (.lst [.int (d1:Nat),.int (d2:Nat),.int (d3:Nat)]) L:=fun L=>rfl
 unfold IE;simp_arith [eb,Ml 6 (by decide),ed,BK,BL,Um,Uo,Up,hx,e1,q1,au (show 4<=lim by decide),au (show 9<=lim by decide)];refine oz fun G n9=>?_
 obtain⟨c1,SY,PJ⟩:=E6 cs 7 13 (.lst (A.map fT)::L) hc;have PJ:jd true (.lst (cs.map .int)) (some 7) (some 13) (.lst (A.map fT)::L)=_:=PJ
 refine n9 ?_;clear n9;simp_arith [PJ];generalize ho:forL _ _ _ _ _ _=o;obtain⟨D,z,hD,gD,rfl⟩:=D9 c1 A good 11 (fun z=>[some (.lst (cs.map .int)),some kl,some (.lst [.str n0,.str n1,.str n2,.str n3]),some (.lst [.str w0,.str w1]),some rl,some (.lst [.int (d0:Nat),.int (d1:Nat),.int (d2:Nat),.int (d3:Nat),.int (d4:Nat),.int (d5:Nat),.int (d6:Nat),.int (d7:Nat),.int (d8:Nat)]),some bk,some (.lst [.str w0,.str n1,.str n2,.str n3]),some (xT r),some (aW vG),some (.ref L.length),z,none,none,none,none,none,none,none,none]) none ho (fun _=>sv) (fun _ _=>rfl) (fun x A' h=>by
  obtain⟨d,hd⟩:=Mm x;obtain⟨f,hf,ef⟩:=BM (d:Nat);refine⟨f,hf,?_⟩;simp_arith [hd,ef,au (show A'.length<lim by unfold lim;omega),bu])
 refine oz fun G n9=>?_
 obtain⟨c2,BW,LU⟩:=E6 cs 13 25 (.lst ((A++D).map fT)::L) hc;have LU:jd true (.lst (cs.map .int)) (some 13) (some 25) (.lst ((A++D).map fT)::L)=_:=LU
 have dr:∀x:Int,∃f,good f/\∀L,(ae F8 [v 2,b2 (ae F2 [v 1,lst true [c (.int 1024)]]) (c (.int 0)) ix,v 3]) [none,some (.int x),some kl,some (.lst [.str w0,.str n1,.str n2,.str n3])] L=.ok (fT f) L:=fun x=>by
  obtain⟨d,hd⟩:=Mm x;obtain⟨f,hf,ef⟩:=BM (d:Nat);exact⟨f,hf,fun L=>by simp_arith [hd,ef]⟩
 obtain⟨g,hg⟩:=aag.mp dr;refine n9 ?_;clear n9;simp_arith;generalize hc:comp _ _ _ _ _ _ _ _=r';obtain rfl:=aS hc c2 T.int (fun x=>fT (g x)) (k:=stays (.lst (c2.map .int)) (.lst ((A++D).map fT)::L)) (by simp_arith [LU]) ai (by unfold lim;omega) fun x _=>(hg x).2 _
 have eM:(c2.map fun x=>fT (g x))=(c2.map g).map fT:=by rw [Vv];rfl
 refine oz fun G n9=>?_
 obtain⟨pl,b,p1,p2,p3,p4⟩:=rest D (c2.map g) L (by omega) (by rw [Lm9];exact BW) gD fun f hf=>by
  obtain⟨x,_,rfl⟩:=U6.mp hf;exact(hg x).1
 generalize c2.map g=M at *
 have j6:∀(r:List T) (a b c d e f g:T) L,ix (.lst (a::b::c::d::e::f::g::r)) (.int 6) L=.ok g L:=fun _ _ _ _ _ _ _ _ _=>cK (i:=6) rfl
 have j7:∀(r:List T) (a b c d e f g h:T) L,ix (.lst (a::b::c::d::e::f::g::h::r)) (.int 7) L=.ok h L:=fun _ _ _ _ _ _ _ _ _ _=>cK (i:=7) rfl
 have j8:∀(r:List T) (a b c d e f g h i:T) L,ix (.lst (a::b::c::d::e::f::g::h::i::r)) (.int 8) L=.ok i L:=fun _ _ _ _ _ _ _ _ _ _ _=>cK (i:=8) rfl
 have ht:∀L,jd true (.lst [.tup [.str a5,.str a6],.tup [.str a7,.str a8]]) none (some (d4:Int)) L=.ok (.lst (([(a5,a6),(a7,a8)].take d4).map pT)) L:=fun L=>by
  rw [lZ (by simp;decide),WZ];rfl
 obtain⟨prs,vH⟩:∃prs,prs=if d4=0 then r.aj.map fun k=>(af vG k.l,af vG k.r) else [(a5,a6),(a7,a8)].take d4:=⟨_,rfl⟩
 replace p4:=fun h=>p4 h prs vH
 refine n9 ?_;clear n9;simp_arith [eM,j6,j7,j8,i5,i6,i7,i8,au (show 2<=lim by decide),ht];have Uq:r.aj.length<=lim:=by unfold lim;omega
 have h0:d4≠0->((d4:Int) == 0)=false:=fun h=>by simpa using h
 apply twice
 ·intro key
  by_cases h4:d4=0
  ·rw [if_pos h4] at vH
   simp_arith [show((d4:Int) == 0)=true by rw [h4];rfl];generalize hc:comp _ _ _ _ _ _ _ _=r';obtain rfl:=aS hc r.aj oy (fun k=>pT (af vG k.l,af vG k.r)) rfl sv Uq fun k _=>by simp_arith [Ul];rfl
   rw [show(r.aj.map fun k=>pT (af vG k.l,af vG k.r))=prs.map pT by rw [vH,Vv];rfl];simp_arith;exact key
  ·rw [if_neg h4] at vH
   simp_arith [h0 h4,<- vH];exact key
 have Ur:∀(b:Bool) (x:T),fin L (.bl b) (x::L)=.ok (.bl b) L:=fun b x=>fA rfl
 have Rg:∀(b:Bool) (x y:T),fin L (.bl b) (y::x::L)=.ok (.bl b) L:=fun b x y=>tj (Ln:=[_,_]) rfl (dj L) rfl
 simp_arith [Mn,p1,s1,p2];cases b with
 | false =>
  simp_arith [p3];exact Ur true _
 | true =>
  refine oz fun G n9=>?_
  obtain⟨gr,x1,du,S,b2,bq,y1,y2,y3,y4,y5,y6,y7,y8,y9,Us,Rh⟩:=p4 rfl;refine n9 ?_;clear n9;have hd:ic [.tup (S.map pT)] (.lst ((A++D).map fT)::L)=.ok (.ref (L.length+1)) (aW S :: .lst ((A++D).map fT)::L):=n8 (g:=fun p:Cs × Cs=>p.1) (h:=fun p=>.str p.2) S y6 (by omega) _
  have jN:jF (aW S :: .lst ((A++D).map fT)::L) (.ref (L.length+1)) S:=.inr ⟨_,rfl,cR⟩;unfold stepT at *
  simp_arith [y1,y2,y3,y4,hd];generalize hc:comp _ _ _ _ _ _ _ _=r';obtain rfl:=aS hc vs T.str (fun n=>.str (af S n)) rfl sv (by unfold lim;omega) (fun n _=>by
   rw [mB (n:=n) jN rfl (by simp_arith)])
  rw [show(vs.map fun n=>T.str (af S n))=(vs.map (af S)).map .str by rw [Vv];rfl];simp_arith [y8];cases b2 with
  | true =>
   simp_arith [y9 rfl,Rh];exact Rg true _ _
  | false =>
   obtain⟨rfl,h⟩:=Us rfl;simp_arith [y5,Rh];rw [show(if bq=true then T.bl true else T.bl ((r.take.length:Int) == 0))=T.bl true by
    rcases h with rfl|h
    ·rfl
    ·rw [h];cases bq <;> rfl]
   exact Rg true _ _
end
theorem Rj {ks:List Kd} {k:Kd} (hk:k∈ks):k.n∈ak ks\/k.n∈(ks.filter fun k=>!k.l).map (·.n):=by
 cases h:k.l with
 | true=>exact .inl (U6.mpr ⟨k,VC.mpr ⟨hk,h⟩,rfl⟩)
 | false=>exact .inr (U6.mpr ⟨k,VC.mpr ⟨hk,by simp [h]⟩,rfl⟩)
theorem IF {ks:List Kd} (nd:(ks.map (·.n)).Nodup) {n:Cs} (h1:n∈ak ks) (h2:n∈(ks.filter fun k=>!k.l).map (·.n)):False:=by
 obtain⟨j,hj,e1⟩:=U6.mp h1;obtain⟨k,hk,e2⟩:=U6.mp h2;obtain⟨j1,j2⟩:=VC.mp hj;obtain⟨k1,k2⟩:=VC.mp hk;have:=Bk.iJ nd j1 k1 (e1.trans e2.symm)
 subst this;rw [j2] at k2;cases k2
theorem mz.ff {ks uC:List Kd} {ns:List Cs} {f:Fc} (hs:∀k∈uC,k∈ks) (h:mz uC ns f):aO ks f:=by
 obtain⟨⟨k,hk,e1,e2⟩,_⟩:=h;exact⟨k,hs k hk,e1.symm,e2⟩
theorem Rk {ks:List Kd} {st:bc} {f:Fc} (h:aO ks f):aO ks (wr st f):=by
 obtain⟨k,hk,e1,e2⟩:=h;exact⟨k,hk,e1,by show(f.as.map _).length=_;rw [Lm9];exact e2⟩
theorem Mo {ks:List Kd} (hG:KG ks) {f:Fc} (h:aO ks f):f.as.length<=4:=by
 obtain⟨k,hk,_,e⟩:=h;have:=(hG.ok k hk).2;omega
section
variable {ks:List Kd} {rs:List Rl} {n0 n1 n2 n3 w0 w1:Cs}
theorem IG (B:sY ks [n0,n1,n2,n3] [w0,w1] rs) {d:Nat} {r:Rl} (hr:rs[d]?=some r) (a b c:Nat) (ha:a<4) (hb:b<4) (hc:c<4) :
  ∃vs,Rv ks [n1,n2,n3] r vs/\(∀L,bV [xT r,.lst [.int (a:Nat),.int (b:Nat),.int (c:Nat)],.lst [.str w0,.str n1,.str n2,.str n3]] L=.ok (aW (ao r vs)) L) /\
   (∀L,bA [xT r,aW (ao r vs)] L=.ok (.ref L.length) (.lst ((aD (ao r vs) r).map fT)::L))/\(aD (ao r vs) r).length<=4/\(∀f∈aD (ao r vs) r,f.as.length<=4) /\
   (∀L,cW [.lst (rs.map xT),.int (d:Nat),aW (ao r vs)] L=.ok (stepT d vs) L) /\
   (∀bp bl st L,cV [.lst (ks.map kT),aM bp bl st,xT r,aW (ao r vs)] L=.ok (.bl (fw ks (ao r vs) r bp bl false)) L) /\
   (∀vs,Rv ks [n1,n2,n3] r vs->∀bp bl st L,eF [jD ks (aw rs),aM bp bl st,stepT d vs] L=.ok (.bl (fw ks (ao r vs) r bp bl false)) L) /\
   ∀vs,Rv ks [n1,n2,n3] r vs->∀bp bl st,Mv ks bp bl st (tk r vs) (pu r vs) (te r vs)->fw ks (ao r vs) r bp bl false=true->∀L,∃x,l9 ks bp bl st (tk r vs) (pu r vs) (te r vs) x/\eU [jD ks (aw rs),aM bp bl st,stepT d vs] L=.ok x L:=by
 have hG:=B.kg;have h4:=hG.len
 have CZ:∀k∈ks.filter tZ,k∈ks:=fun k hk=>(VC.mp hk).1
 have wL:=B.wL;have PK:=VN hr
 have D:=B.rd r PK;refine oz fun G n9=>?_
 obtain⟨f1,f2,f3,f4,f5⟩:=(B.rd r PK).pe;have N6:=B.HQ PK
 have hd:=(Vl.mp hr).1;have MZ:(aw rs)[d]?=some (fS r (rT d)):=by
  have:=Bk.kq hd;rw [Ge9 hd] at hr;cases hr;exact this
 have PL:∀f∈r.take++r.keep,mz ks ([n0,n1,n2]++[w0,w1]) f:=fun f hf=>by
  rcases Vd.mp hf with h|h
  ·obtain⟨⟨k,hk,e⟩,h2⟩:=D.take f h
   exact⟨⟨k,CZ k hk,e⟩,h2⟩
  ·exact D.keep f h
 have Mp:∀a∈[n0,n1,n2]++[w0,w1],cO a/\(great a=false\/a∈[n0,n1,n2]):=fun a ha=>by
  rcases Vd.mp ha with h|h
  ·exact⟨wL a (Va _ (by simp at h ⊢;grind)),.inr h⟩
  ·exact⟨wL a (Vh _ h),.inl (B.wg a h)⟩
 have hnames:∀f∈r.take++r.keep,∀a∈f.as,cO a:=fun f hf a h=>(Mp a ((PL f hf).2 a h)).1
 have JD:=pR (fun k hk=>(hG.ok k hk).2) PL (by simp;omega);obtain⟨vs,hv1,Jf,Rn⟩:=BE r [a,b,c] [w0,n1,n2,n3] hnames JD (by omega) (by simpa using N6) (by simp) (fun d hd=>by
  simp only [Vn,WR,or_false] at hd;rcases hd with e|e|e <;> rw [e] <;> simpa)
 simp only [Vg,V7] at Rn;have Mq:∀f∈r.put,aO ks f:=fun f hf=>mz.ff (fun k hk=>by
  split at hk
  ·exact(VC.mp hk).1
  ·exact hk) (D.put f hf)
 have IH:∀f∈r.take++r.keep,aO ks f:=fun f hf=>mz.ff (fun _ h=>h) (PL f hf)
 have u5:∀a∈opens (r.take++r.keep)++[w0,w1],cO a/\(a∈opens (r.take++r.keep)\/great a=false):=fun a ha=>by
  rcases Vd.mp ha with h|h
  ·obtain⟨⟨g,hg,hx⟩,_⟩:=Bk.kh h
   exact⟨hnames g hg a hx,.inl h⟩
  ·exact⟨wL a (Vh _ h),.inr (B.wg a h)⟩
 have ff:∀f∈r.take++r.keep++r.put,aO ks f/\f.as.length<=4:=fun f hf=>by
  have h:aO ks f:=(Vd.mp hf).elim (IH f) (Mq f);exact⟨h,Mo hG h⟩
 have Ec:r.take.length<=4/\r.keep.length<=4/\r.aj.length<=4/\r.put.length<=4/\r.tell.length<=4:=⟨by omega,by omega,by omega,by omega,by omega⟩;have V:Rv ks [n1,n2,n3] r vs:=by
  refine⟨hv1,by omega,fun v hv=>?_,fun f hf a ha=>?_,fun f hf a ha=>u5 a ((D.put f hf).2 a ha),fun k hk=>⟨u5 _ (D.aj k hk).1,u5 _ (D.aj k hk).2⟩,fun p hp=>⟨u5 _ (D.tell p hp).1,u5 _ (D.tell p hp).2⟩,Ec,ff,fun f hf=>?_,fun h0 f hf=>?_⟩
  ·have h:=Jf v hv
   have h2:v=w0\/v∈[n1,n2,n3]:=by simpa using h
   rcases h2 with rfl|h2
   ·exact⟨fun g=>(by rw [B.wg v (by simp)] at g;cases g),wL v (by simp)⟩
   ·exact⟨fun _=>h2,wL v (Va _ (U5 _ h2))⟩
  ·refine⟨hnames f hf a ha,?_⟩
   cases g:great a with
   | true=>exact .inl (Bk.xS hf ha g)
   | false=>exact .inr rfl
  ·obtain⟨⟨k,hk,e,_⟩,_⟩:=D.take f hf
   rw [e];obtain⟨h1,h2⟩:=VC.mp hk;exact fun z=>IF hG.nd z (U6.mpr ⟨k,VC.mpr ⟨h1,h2⟩,rfl⟩)
  ·obtain⟨⟨k,hk,e,_⟩,_⟩:=D.put f hf
   rw [if_pos h0] at hk;rw [e];exact Vo hk
 have M0:∀f∈r.take++r.keep++r.put,f.as.length<=4:=fun f hf=>(ff f hf).2
 refine n9 ?_;clear n9;refine⟨vs,V,Rn,fun L=>IA r (ao r vs) (fun f hf=>by have:=M0 f (Va _ hf);omega) (by omega) L,by unfold aD;simp;omega,fun f hf=>?_,fun L=>Iz rs d r hr vs hv1 hnames JD (by omega) (by omega) L,fun bp bl st L=>D4 ks (by omega) r _ V.sm (fun k hk=>⟨(V.nl k hk).1.1,(V.nl k hk).2.1⟩) M0 Ec bp bl st L,fun vs V bp bl st L=>Bv ks (by omega) (aw rs) d vs (fS r (rT d)) MZ V.hv V.D6 bp bl st V.sm (fun k hk=>⟨(V.nl k hk).1.1,(V.nl k hk).2.1⟩) M0 Ec L,fun vs V bp bl st M hF L=>?_⟩
 ·obtain⟨g,hg,rfl⟩:=U6.mp hf
  exact(rg (ks:=ks) (ff g (Va _ hg))).2
 ·obtain⟨x,h1,_,h2⟩:=DZ ks (by omega) (aw rs) d vs (fS r (rT d)) MZ V.hv V.D6 bp bl st V.sm (fun k hk=>⟨(V.nl k hk).1.1,(V.nl k hk).2.1⟩) M M0 Ec hF L
  exact⟨x,h1,h2⟩
end
theorem tS {ks:List Kd} {r:Rl} {vs:List Cs} {K:List Cs} (V:Rv ks K r vs):(aD (ao r vs) r).filter (fun f=>!decide (f.k∈ak ks))=tk r vs++(r.keep.map (wr (ao r vs))).filter (fun f=>!decide (f.k∈ak ks)):=by
 unfold aD;rw [Vk,Xq];congr 1;refine XG.mpr fun f hf=>?_
 obtain⟨g,hg,rfl⟩:=U6.mp hf;simpa using (show ¬ (wr (ao r vs) g).k∈ak ks from V.tl g hg)
theorem vD.eq {K:List Cs} {fU fM:List Fc} {prs:List (Cs × Cs)} {x:T} (h:vD K fU fM prs x):II x=false/\∀L,E9 x x L=.ok true L:=by
 have key:∀xs:List T,dat 8 (.tup xs)=true->II (.tup xs)=false/\∀L,E9 (.tup xs) (.tup xs) L=.ok true L:=fun xs d=>⟨rfl,fun L=>by
  show b8 (dat 8 (.tup xs)=true/\dat 8 (.tup xs)=true) _=_;rw [au ⟨d,d⟩];show R.ok (vI 8 (.tup xs) (.tup xs)) L=_
  rw [iB 8 d]⟩
 have df:∀l:List Fc,(l.map fT).all (dat 6)=true:=fun l=>by simp [fT,dat]
 rcases h with⟨_,rfl⟩|⟨_,P,Q,S,_,rfl,_⟩
 ·exact key _ rfl
 ·refine key _ ?_
  simp only [dat,VU,Zp,df];simp [pT,dat]
theorem diag {l:List Cs} {e:Cs × Cs} (h:e∈l.map fun a=>(a,a)):e.1∈l/\e.2=e.1:=by
 obtain⟨a,ha,rfl⟩:=U6.mp h;exact⟨ha,rfl⟩
theorem Mr (cs:List Int) (hc:cs.length<=63) (L:aa):td [.lst (cs.map .int)] L=.ok (.bl true) L:=by
 refine oz fun G n9=>?_
 obtain⟨ks,ns,ws,rs,B,hP,eb⟩:=Py cs;have hG:=B.kg
 have h4:=hG.len;have BL:=tG hG B.OM.1 B.OM.2.1 B.OM.2.2
 have BK:=H9 ks hG rs B.r2 B.rl;obtain⟨n0,n1,n2,n3,rfl⟩:∃a b c d,ns=[a,b,c,d]:=by
  have:=B.n4
  match ns,this with
  | [a,b,c,d],_=>exact⟨a,b,c,d,rfl⟩
 obtain⟨w0,w1,rfl⟩:∃a b,ws=[a,b]:=by
  have:=B.w2
  match ws,this with
  | [a,b],_=>exact⟨a,b,rfl⟩
 have wL:=B.wL;have hK:[n1,n2,n3].Nodup:=((WM.mp B.nd).1.tail)
 obtain⟨_,p,ed⟩:=lY (cs.getD 6 0) [2,4,4,4,3,4,4,4,4] (by decide) (by decide);obtain⟨d0,_,rfl,h0,p⟩:=P1 p;obtain⟨d1,_,rfl,h1,p⟩:=P1 p;obtain⟨d2,_,rfl,h2,p⟩:=P1 p;obtain⟨d3,_,rfl,h3,p⟩:=P1 p;obtain⟨d4,_,rfl,g0,p⟩:=P1 p;obtain⟨d5,_,rfl,g1,p⟩:=P1 p;obtain⟨d6,_,rfl,g2,p⟩:=P1 p;obtain⟨d7,_,rfl,g3,p⟩:=P1 p;obtain⟨d8,_,rfl,g4,p⟩:=P1 p;obtain rfl:=P0 p;simp only [Vg,V7] at ed eb;obtain⟨r,hr⟩:∃r,rs[d0]?=some r:=⟨_,Ge9 (by rw [B.r2];omega)⟩;obtain⟨vs,V,a1,a2,a3,a4,a5,a6,a7,a8⟩:=IG B hr d1 d2 d3 (by omega) (by omega) (by omega);have x1:∀L,ix (.lst (rs.map xT)) (.int (d0:Nat)) L=.ok (xT r) L:=fun L=>cK (by rw [Vs,hr];rfl)
 have Ed:∀a∈[w0,n1,n2,n3],Kn [n1,n2,n3] a/\cO a:=fun a ha=>by
  rcases Vn.mp ha with rfl|h
  ·exact⟨fun g=>(by rw [B.wg a U4] at g;cases g),wL a (by simp)⟩
  ·exact⟨fun _=>h,wL a (Va _ (U5 _ h))⟩
 have rep:∀d<4,∃a∈[w0,n1,n2,n3],∀L,ix (.lst [.str w0,.str n1,.str n2,.str n3]) (.int (d:Nat)) L=.ok (.str a) L:=fun d hd=>by
  have hl:d < [w0,n1,n2,n3].length:=hd;exact⟨[w0,n1,n2,n3][d],Vp hl,fun L=>cK (xs:=[w0,n1,n2,n3].map .str) (by rw [Vs,Ge9 hl];rfl)⟩
 obtain⟨q5,m5,i5⟩:=rep d5 (by omega);obtain⟨q6,m6,i6⟩:=rep d6 (by omega);obtain⟨q7,m7,i7⟩:=rep d7 (by omega);obtain⟨q8,m8,i8⟩:=rep d8 (by omega);refine n9 ?_;clear n9;rw [Ea];refine Eb cs hc (.lst (ks.map kT)) (.lst (rs.map xT)) (jD ks (aw rs)) (stepT d0 vs) _ r (ao r vs) vs n0 n1 n2 n3 w0 w1 q5 q6 q7 q8 d0 d1 d2 d3 d4 d5 d6 d7 d8 _ _ (fun f=>f.as.length<=4) eb (fun k hk L=>qQ cs k hk L) ed BK BL x1 a1 a2 a3 (fun c=>?_) (fun n=>?_) (fun L=>IB n0 n1 n2 n3 L) (fun n L=>ID _ n L) V.pe.2.2.1 i5 i6 i7 i8 a5 V.D6 (fun D M L hD hM gD gM=>?_) L
 ·obtain⟨_,p,e⟩:=lY c [1024] (by decide) (by decide)
  obtain⟨d,_,rfl,_,p⟩:=P1 p;obtain rfl:=P0 p;simp only [Vg,V7] at e;exact⟨d,e⟩
 ·obtain⟨f,hf,e⟩:=ib ks [w0,n1,n2,n3] n (by omega) (by omega) (fun k hk=>(hG.ok k hk).2) (by simp) (by simp)
  exact⟨f,Mo hG (mz.ff (fun _ h=>h) hf),e⟩
 generalize hA:aD (ao r vs) r=A at *
 have MU:(A++D).length<=10:=by rw [U3];omega
 have Ro:∀f∈A++D,f.as.length<=4:=fun f hf=>(Vd.mp hf).elim (a4 f) (gD f)
 refine oz fun G n9=>?_
 obtain⟨P,Q,S,DX,MT,Ir,hS1,rq,Iq,hS2,Ms⟩:=BF ks (by omega) (A++D) (by omega) [(n1,n1),(n2,n2),(n3,n3)] (by simp) (x:=.ref L.length) (L:=.lst ((A++D).map fT)::L) (.inr ⟨_,rfl,WH _,cR⟩);refine n9 ?_;clear n9;refine⟨aM P Q S,_,Ms,a7 vs V P Q S,a6 P Q S,fun F1 prs vH=>?_⟩;refine oz fun G n9=>?_
 have Rp:Sk [n1,n2,n3] [(n1,n1),(n2,n2),(n3,n3)]:=⟨hK,fun x=>Iff.rfl,fun e he _=>by
  obtain⟨h1,h2⟩:=diag (l:=[n1,n2,n3]) he;rw [h2];exact h1,fun x hx=>B.ng x (U5 _ hx)⟩
 have s:=Rp.perm hS1;have ro:af S=id:=funext fun x=>by
  rw [oq Rp.nd hS1];rcases kW (st:=[(n1,n1),(n2,n2),(n3,n3)]) (x:=x) with⟨v,_,h2,h3⟩|⟨_,_,h3⟩
  ·rw [h3]
   exact(diag (l:=[n1,n2,n3]) h2).2
  ·exact h3
 have sm:jI S:=fun e he=>by
  obtain⟨h1,h2⟩:=diag (l:=[n1,n2,n3]) (hS1.mem_iff.mp he);have k:=wL _ (U5 _ (Va [w0,w1] h1))
  exact⟨k,by rw [h2];exact k⟩
 have sl:S.length<=10:=by rw [hS1.length_eq];simp
 have hp:∀p∈prs,(Kn [n1,n2,n3] p.1/\cO p.1)/\Kn [n1,n2,n3] p.2/\cO p.2:=fun p hp=>by
  rw [vH] at hp;split at hp
  ·obtain⟨k,hk,rfl⟩:=U6.mp hp
   exact⟨V.af (V.nl k hk).1,V.af (V.nl k hk).2⟩
  ·exact all2 (P:=fun p:Cs × Cs=>(Kn [n1,n2,n3] p.1/\cO p.1)/\Kn [n1,n2,n3] p.2/\cO p.2) ⟨Ed _ m5,Ed _ m6⟩ ⟨Ed _ m7,Ed _ m8⟩ (Wk hp)
 have kP:∀f∈P,f∈A++D/\f.k∉ak ks:=fun f hf=>by
  obtain⟨h1,h2⟩:=VC.mp (DX.mem_iff.mp hf);exact⟨h1,by simpa using h2⟩
 have lP:P.length<=10:=by
  rw [DX.length_eq];exact dE MU
 have lQ:Q.length<=10:=Vt (rh MT fun f h=>((Ir f).mp h).1) MU;have P4:∀f∈P++Q,f.as.length<=4:=fun f hf=>(Vd.mp hf).elim (fun h=>Ro f (kP f h).1) fun h=>Ro f ((Ir f).mp h).1
 have Rr:∀l:List Fc,l.map (wf id)=l:=fun l=>by
  conv=>rhs;rw [<- Yr l]
  exact VE fun f _=>by cases f;simp [wf]
 have PM:Pl [n1,n2,n3] (af S) P Q P Q S:=by
  rw [ro];refine⟨s,ro,BD,by rw [Rr],?_,MT,fun f=>by rw [Rr],rq,?_⟩
  ·rw [<- Iq]
   exact(cA fun y hy=>by obtain⟨f,_,rfl⟩:=U6.mp hy;exact tN f).2
  ·rw [<- hS2]
   exact(cA fun y hy=>by obtain⟨p,_,rfl⟩:=U6.mp hy;exact kd_p p).2
 have Ut:By id [] (af S):=by
  rw [ro];exact⟨⟨BD,fun _ _ e=>e,fun p hp=>nomatch hp⟩,fun σ h=>h.2.1⟩
 have PN:Out [n1,n2,n3] P Q [] (aM P Q S):=.inr ⟨P,Q,S,Ut,rfl,PM,sm,sl⟩;have s1:=tS V
 rw [hA] at s1;rw [Xq,s1] at DX;generalize (r.keep.map (wr (ao r vs))).filter (fun f=>!decide (f.k∈ak ks))=k1 at *
 generalize D.filter (fun f=>!decide (f.k∈ak ks))=k3 at *
 have tid:∀l:List Fc,l.map (wr S)=l:=fun l=>Bk.AJ fun f _=>Bk.EM fun a _=>by rw [ro];rfl
 have tf:P.Perm (tk r vs++(k1++k3)):=by rw [<- Vw];exact DX
 have M1:=V.mv (by omega) (PM.rm hG.nd (by omega) sm sl lP lQ P4) s.nd fun f=>by rw [tid,tf.count_eq,WV];exact Y0 _ _
 obtain⟨y1,Uu,e1⟩:=a8 vs V P Q S M1 F1 (.lst ((A++D).map fT)::L);have lp:(pu r vs).length<=4:=by simpa [pu] using V.pe.2.2.2.1
 have lb:(eB ks (pu r vs)).length<=4:=dE lp;have ll:(fN ks (pu r vs)).length<=4:=dE lp
 have p4:∀f∈pu r vs,f.as.length<=4:=fun f hf=>by
  obtain⟨g,hg,rfl⟩:=U6.mp hf;exact(rg (V.ff g (Vh _ hg))).2
 have kb:∀l:List Fc,∀f∈eB ks l,f∈l/\f.k∉ak ks:=fun l f hf=>by
  obtain⟨h1,h2⟩:=VC.mp hf;have h2:(!decide (f.k∈ak ks))=true:=h2
  exact⟨h1,by simpa using h2⟩
 have kl:∀l:List Fc,∀f∈fN ks l,f∈l/\f.k∈ak ks:=fun l f hf=>by
  obtain⟨h1,h2⟩:=VC.mp hf;exact⟨h1,of_decide_eq_true h2⟩
 have PQ:Out [n1,n2,n3] (k1++k3++eB ks (pu r vs)) (Q++fN ks (pu r vs)) (te r vs) y1:=by
  rcases BC (rest:=k1++k3) s PM.sd Uu (fun f hf a ha=>(V.kp f hf a ha).1) (fun p hp=>(V.kt p hp).1) (fun f _=>Bk.EM fun a _=>by rw [ro];rfl) (by rw [tid];exact tf) with⟨no,e⟩|⟨τ,P1,Q1,S1,ls,e,pl,h1,h2⟩
  ·rw [ro] at no
   exact .inl ⟨no,e⟩
  ·rw [ro] at ls
   have Uv:=pl.ro;subst Uv;exact .inr ⟨P1,Q1,S1,ls,e,pl,h1 sm fun p hp=>(V.kt p hp).2,by rw [h2];exact sl⟩
 obtain⟨gr,og,eg⟩:=BJ (fs:=M) (prs:=prs) PN (by omega) (fun f h=>(kP f h).2) (fun f h=>((Ir f).mp h).2) (by omega) (fun f hf=>(Vd.mp hf).elim (P4 f) (gM f)) hp (.lst ((A++D).map fT)::L);have kR:∀f∈k1++k3,f∈P:=fun f hf=>tf.mem_iff.mpr (Vh _ hf)
 have lR:(k1++k3).length<=10:=by
  have:=tf.length_eq;rw [U3] at this;omega
 obtain⟨du,od,ed⟩:=BJ (fs:=M) (prs:=prs) PQ (by omega) (fun f h=>(Vd.mp h).elim (fun h=>(kP f (kR f h)).2) fun h=>(kb _ f h).2) (fun f h=>(Vd.mp h).elim (fun h=>((Ir f).mp h).2) fun h=>(kl _ f h).2) (by rw [U3,U3 (as:=Q)];omega) (fun f hf=>by
  rcases Vd.mp hf with h|h
  ·rcases Vd.mp h with h|h
   ·exact(Vd.mp h).elim (fun h=>P4 f (Va _ (kR f h))) fun h=>p4 f (kb _ f h).1
   ·exact(Vd.mp h).elim (fun h=>P4 f (Vh _ h)) fun h=>p4 f (kl _ f h).1
  ·exact gM f h) hp (.lst ((A++D).map fT)::L)
 have dq:=od.comb.eq.2;have hd:=(Vl.mp hr).1
 have MZ:(aw rs)[d0]?=some (fS r (rT d0)):=by
  have:=Bk.kq hd;rw [Ge9 hd] at hr;cases hr;exact this
 rcases og with⟨no,rfl⟩|⟨P2,Q2,S2,Jh,rfl,x6,Uw,IV⟩
 ·have Ux:du=aP:=by
   rcases od with⟨_,e⟩|⟨_,_,_,ls,_⟩
   ·exact e
   ·exact absurd ⟨ls.1.1,ls.1.2.1,fun p hp=>ls.1.2.2 p (Vh _ hp)⟩ (no _)
  subst Ux;exact n9 ⟨aP,y1,aP,[],false,true,eg,e1,ed,fun _=>rfl,fun _=>rfl,Xt,VK _,fun L=>D8 ks (aw rs) d0 _ (fS r (rT d0)) MZ (by rw [Lm9];exact V.hv) L,fun z=>(by cases z),fun _=>⟨rfl,.inl rfl⟩,dq⟩
 ·have m2:=x6.rm (n:=40) hG.nd (by omega) Uw IV (by have:(eB ks M).length<=12:=dE hM;rw [U3];omega) (by have:(fN ks M).length<=12:=dE hM;rw [U3];omega) fun f hf=>by
   rcases Vd.mp hf with h|h
   ·exact(Vd.mp h).elim (fun h=>P4 f (Va _ h)) fun h=>gM f (kb _ f h).1
   ·exact(Vd.mp h).elim (fun h=>P4 f (Vh _ h)) fun h=>gM f (kl _ f h).1
  have aj:r.aj.all (dW (ao r vs))=true:=by
   unfold fw at F1;simp only [Ve] at F1;exact F1.2.1
  obtain⟨b2,x,t1,t2,t3,t4⟩:=turn V Jh x6 m2 (E:=k3++eB ks M) (C:=k1++k3++eB ks M) (by rw [hA,s1,<- Vw];exact DX.append_right _) (by rw [<- Vw];exact tf.append_right _) aj (fun f hf hk=>Va _ ((Ir f).mpr ⟨by rw [hA] at hf;exact Va _ hf,hk⟩)) a7 a8 (aW S2 :: .lst ((A++D).map fT)::L);obtain rfl:=t4.one hK od.comb (aaQ.mpr fun f=>by simp only [WV];omega) (fun f=>by simp only [Vd];grind) (fun p=>by simp only [Vd,VP];exact Or.comm);exact n9 ⟨_,y1,x,S2,b2,false,eg,e1,ed,fun _=>rfl,fun _=>rfl,x6.sk.nd,IV,t1,t2,fun h=>⟨(t3 h).2.symm,.inr (t3 h).1⟩,dq⟩
theorem BN:∀ns:List Int,ns.length<=63->∃L,td [.lst (ns.map .int)] []=.ok (.bl true) L:=fun ns h=>⟨[],Mr ns h []⟩
end ET
end
namespace ET
open PySem M
set_option maxHeartbeats 4000000
def G0:Ct:=⟨[],[("SMALL",ku),("GREAT",ky),("FIGURES",lK),("LONGEST",lL),("BROKEN",aP),("LINE_MARKS",g9),("KIND_WORDS",hO),("RULE_WORD",cU),("PART_WORDS",bO),("COUNTS",nV)],[],["given","kept","kinds","left","looks","names","right","rules","taken","title","told"],["len","list","tuple","all","any","min","str","int","range","enumerate","zip","sorted","set","dict"],[(38,12),(50,12),(83,12),(138,13),(141,11),(268,12),(305,11),(305,12),(308,24),(332,12),(339,12),(340,12),(375,11),(390,17),(408,17),(428,17),(436,22),(438,26),(451,21),(460,17),(479,17),(513,16),(530,15),(555,11)]⟩
def ds:List Df:=.f false "_law_at" 2 93 bU :: .f false "_law_cell" 2 79 bE :: .f false "_law_digits" 2 80 ax :: .f false "_law_name" 2 81 bo :: .f false "_law_kinds" 1 85 eL :: .f false "_law_drawn" 3 84 aE :: .f false "_law_heads" 3 86 dn :: .f false "_law_looks" 2 88 eO :: .f false "_law_names" 1 87 cD :: .f false "_law_rule" 5 89 fW :: .f false "_law_book" 1 92 dX :: .f false "_law_as" 2 94 dK :: .f false "_law_holds" 2 95 eQ :: .f false "_law_fits" 4 96 cV :: .f true "_law_instance" 2 103 bA :: .f false "_law_pool" 3 97 cu :: .f false "_law_told" 3 98 fX :: .f false "_law_moved" 5 99 eR :: .f false "_law_more" 4 105 cv :: .f false "_law_same" 1 104 dY :: .f false "_law_step" 3 102 cW :: .f false "_law_fact" 1 82 cw :: .f false "_law_part" 2 90 aK :: .f false "_law_text" 2 91 dZ :: .f false "_law_values" 3 101 bV :: .f false "check_facts" 2 30 bW :: .f false "check_taken" 2 31 bY :: .f false "is_great" 1 19 ba :: .f false "know" 2 34 nW :: .f false "taken_out" 2 33 cY :: .f false "chosen" 2 36 kz :: .f false "tell_same" 3 35 fY :: .f false "written" 2 32 bB :: .f false "moved" 5 29 mQ :: .f false "pair_written" 2 45 cx :: .f false "behind" 3 40 kC :: .f false "changes" 3 44 i0 :: .f false "check_step" 2 41 eS :: .f false "heads_there" 4 43 dO :: .mt "Same" "holds" "Same.holds" 3 48 0 cE :: .mt "Unlike" "holds" "Unlike.holds" 3 49 0 bK :: .f false "looks_hold" 2 42 eT :: .mt "Rule" "calls" "Rule.calls" 1 69 1 bP :: .f false "fits" 3 38 eF :: .f false "after" 3 39 eU :: .f false "open_names" 1 71 eV :: .mk "Rule" "Rule.__init__" 3 69 0 iM :: .f false "is_name_sign" 1 20 cy :: .f false "name_end" 2 23 hV :: .f false "pieces" 2 22 kE :: .f false "line_pieces" 1 58 dP :: .f false "is_name" 1 18 dM :: .f false "is_small_word" 1 17 bD :: .f false "read_kind" 1 59 fZ :: .f false "parted" 2 67 fE :: .f false "piece_at" 2 24 aH :: .mk "Same" "Look.__init__" 3 47 0 cZ :: .mk "Unlike" "Look.__init__" 3 47 0 cZ :: .f false "check_two_names" 1 66 bF :: .f false "read_look" 1 63 f7 :: .f false "read_looks" 1 62 dy :: .f false "read_pair" 1 65 f9 :: .f false "read_pairs" 1 64 dz :: .f false "arguments_at" 2 26 dA :: .f false "fact_at" 2 25 i9 :: .f false "row_of_facts" 1 21 dB :: .f false "read_part" 2 61 cz :: .f false "read_rule" 1 60 gc :: .f false "hear_line" 3 73 c7 :: .f false "is_told" 1 57 ja :: .f false "told_lines" 1 56 eW :: .mk "Book" "Book.__init__" 3 70 0 iN :: .f false "check_call" 2 75 dC :: .f false "said_names" 1 77 eX :: .f false "check_names" 1 76 dQ :: .f false "whole_book" 2 74 eY :: .f false "read_book" 1 72 d9 :: .f false "law" 1 106 td::[]
theorem Uy:Aw PySem.Challenge.pw_poolrules_k22_more_facts_more_sameness.main.body G0 ds:=by
 unfold ds
 repeat' first|refine M.xR ?_|refine M.KP ?_|refine M.KQ ?_|exact M.OA
end ET
open PySem PySem.W PyProof.Rows M
set_option maxHeartbeats 0 in
theorem PySem.Challenge.cw_poolrules_k22_more_facts_more_sameness_holds : PySem.Challenge.rw_poolrules_k22_more_facts_more_sameness.Holds := by
 w_on;o_law;k_head;(case hw=>w_witness2)
 k_fill
 refine Dm (l:=PySem.Challenge.rw_poolrules_k22_more_facts_more_sameness) (n:=63) (k:=82) (m:=ET.td) rfl (by decide) rfl ⟨rfl,by decide,by decide⟩ (fun w h Y=>kIn_of Y) (fun w mg fa h X G e=>?_) ET.BN;refine Ho PySem.Challenge.pw_poolrules_k22_more_facts_more_sameness.main.body ET.G0 ["Book","Rule","Same","Unlike"] ET.ds X G e ET.Uy (by decide) (by kernel_rfl) ⟨rfl,rfl⟩ (by decide +kernel) (Ay (by k_is) (by decide) (Ay (by k_is) (by decide) (Ay (by k_is) (by decide) (OG (by k_is) (Dq (us:=#[.ref _,.ref _,.ref _,.bool true]) (by k_is) (by k_is) (by decide) (Hq (us:=#[]) (by k_is) (by decide) u0 (Hq (us:=#[]) (by k_is) (by decide) u0 (Hq (us:=#[]) (by k_is) (by decide) u0 (OH u0)))) (Ay (by k_is) (by decide) (Dq (us:=#[.str ⟨(S "passing").toArray⟩ _,.str ⟨(S "lasting").toArray⟩ _]) (by k_is) (by k_is) (by decide) (mx (by decide) (mx (by decide) u0)) (Ay (by k_is) (by decide) (Dq (us:=#[.str ⟨(S "take").toArray⟩ _,.str ⟨(S "keep").toArray⟩ _,.str ⟨(S "look").toArray⟩ _,.str ⟨(S "put").toArray⟩ _,.str ⟨(S "tell").toArray⟩ _]) (by k_is) (by k_is) (by decide) (mx (by decide) (mx (by decide) (mx (by decide) (mx (by decide) (mx (by decide) u0))))) (Dq (us:=#[.str ⟨(S "0").toArray⟩ _,.str ⟨(S "1").toArray⟩ _,.str ⟨(S "2").toArray⟩ _,.str ⟨(S "3").toArray⟩ _,.str ⟨(S "4").toArray⟩ _]) (by k_is) (by k_is) (by decide) (mx (by decide) (mx (by decide) (mx (by decide) (mx (by decide) (mx (by decide) u0))))) KL)))))))))) ?_ ?_ ?_;all_goals repeat' first|exact KL|refine OB (by k_is) ?_|refine OC (by k_is) ?_|refine OD (by k_is) (by k_is) (by k_is) (by k_is) (by k_is) (by k_is) (by k_is) ?_ ?_|refine OE (by k_is) (by k_is) (by k_is) (by k_is) ?_|refine KN (by k_is) (by k_is) (by k_is) (by k_is) (by k_is) (by k_is) (by decide) ?_|refine KO (by k_is) (by k_is) (by k_is) (by k_is) (by k_is) (by k_is) (by decide) ?_
